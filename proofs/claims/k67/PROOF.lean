import PyProof.Rows.All
import Wide.All
import OpenK.AllK
import Wide.FinOn
import Lean
import PyProof.EqAt
import PyProof.EqKinds
import PyProof.TupleCall
import PyProof.AttrMissHeap
import PyProof.DictRoadsH
import KE.KDictOf
import PyProof.P3In
import PySem.Challenge.RW_stayprice_k67_unlike_stays_told
set_option maxHeartbeats 0
set_option linter.all false
set_option Elab.async false
def zM8:=@PySem.wpAny_bind
def zM9:=@PySem.Heap.get?_push_of_some
def zN0:=@List.length_map
def zN1:=@PySem.wpAny_pure
def zN2:=@List.getElem?_eq_getElem
def zN3:=@List.getD_eq_getElem?_getD
def zN4:=@Nat.lt_of_lt_of_le
def zN5:=@Nat.le_refl
def zN6:=@List.mem_cons
def zN7:=@List.mem_cons_of_mem
def zN8:=@List.getElem?_eq_some_iff
def zN9:=@PyProof.Rows.wpS_bind
def zO0:=@Nat.le_trans
def zO1:=@List.mem_cons_self
def zO2:=@PySem.Heap.get?_push_size
def zO3:=@List.size_toArray
def zO4:=@PySem.Heap.lt_size
def zO5:=@Nat.zero_le
def zO6:=@List.mem_append_right
def zO7:=@PyProof.Rows.wpS_pure
def zO8:=@List.getElem?_map
def zO9:=@Nat.le_of_eq
def zP0:=@List.not_mem_nil
def zP1:=@Nat.ne_of_lt
def zP2:=@Nat.le_add_right
def zP3:=@List.take_append_drop
def zP4:=@List.mem_append
def zP5:=@Nat.lt_of_le_of_lt
def zP6:=@List.mem_append_left
def zP7:=@List.length_take
def zP8:=@List.mem_singleton
def zP9:=@Bool.false_ne_true
def zQ0:=@Option.map_eq_some_iff
def zQ1:=@List.append_assoc
def zQ2:=@List.length_cons
def zQ3:=@decide_eq_false
def zQ4:=@PySem.W.mg_none_of
def zQ5:=@List.length_append
def zQ6:=@Array.toList_append
def zQ7:=@List.pairwise_append
def zQ8:=@Nat.add_lt_add_left
def zQ9:=@List.length_drop
def zR0:=@Option.some.inj
def zR1:=@List.mem_of_getElem?
def zR2:=@getElem?_pos
def zR3:=@Nat.le_of_ble_eq_true
def zR4:=@Nat.le_of_lt
def zR5:=@Bool.and_eq_true
def zR6:=@List.map_cons
def zR7:=@PySem.wpAny_ite_split
def zR8:=@List.drop_eq_getElem_cons
def zR9:=@or_false
def zS0:=@decide_eq_true
def zS1:=@PySem.W.mg_of
def zS2:=@Int.toNat_natCast
def zS3:=@Ne.symm
def zS4:=@PySem.Heap.get?_update_other
def zS5:=@List.length_set
def zS6:=@Nat.lt_or_ge
def zS7:=@List.getElem_mem
def zS8:=@List.Perm.append_left
def zS9:=@PySem.wpAny_mono
def zT0:=@PySem.wpAny_holding
def zT1:=@PySem.sizeLine_eq
def zT2:=@Nat.lt_irrefl
def zT3:=@Nat.lt_succ_self
def zT4:=@List.lookup_cons
def zT5:=@PySem.wpAny_newObj_type
def zT6:=@List.getElem?_set_ne
def zT7:=@List.getElem?_append_left
def zT8:=@List.mem_iff_getElem
def zT9:=@List.mem_of_mem_drop
def zU0:=@List.append_nil
def zU1:=@List.find?_cons
def zU2:=@PySem.wpAny_call_entry
def zU3:=@List.take_length
def zU4:=@PyProof.Rows.wpS_forRange
def zU5:=@Array.length_toList
def zU6:=@PySem.mem_of_lookup
def zU7:=@PyProof.Rows.callWith_type1
def zU8:=@PySem.wpAny_callSpecial?_slot
def zU9:=@List.nil_append
def zV0:=@PySem.wpAny_setField_rec
def zV1:=@List.mem_of_mem_take
def zV2:=@Nat.le_of_not_lt
def zV3:=@Int.le_refl
def zV4:=@List.pairwise_iff_getElem
def zV5:=@PySem.Heap.size_push
def zV6:=@List.getElem?_eq_none
def zV7:=@PySem.W.kia_one
def zV8:=@Nat.lt_add_of_pos_right
def zV9:=@List.getElem?_replicate
def zW0:=@List.getElem?_append_right
def zW1:=@List.getElem?_set_self
def zW2:=@PySem.wpAny_truthy_bool
def zW3:=@Nat.lt_succ_of_lt
def zW4:=@Nat.le_antisymm
def zW5:=@Array.getElem?_eq_getElem
def zW6:=@PySem.F.slot_zip_next
def zW7:=@List.perm_append_comm
def zW8:=@PySem.wpAny_field
def zW9:=@PySem.wpAny_rule
def zX0:=@PySem.wpAny_seqItems
def zX1:=@PySem.Around.under_plainId
def zX2:=@Bool.and_eq_true_iff
def zX3:=@decide_eq_false_iff_not
def zX4:=@List.length_eq_zero_iff
def zX5:=@Nat.le_of_lt_succ
def zX6:=@of_decide_eq_true
def zX7:=@Array.Perm.refl
def zX8:=@Nat.le_succ
def zX9:=@PySem.wpAny_nextOf_list_item
def zY0:=@List.sum_cons
def zY1:=@Array.getElem?_toList
def zY2:=@Bool.false_eq_true
def zY3:=@PySem.F.plain_extend_loop
def zY4:=@Nat.ne_of_gt
def zY5:=@PyProof.Rows.get?_update_seq
def zY6:=@List.mem_map
def zY7:=@List.map_append
def zY8:=@PySem.codeAny_builtin
def zY9:=@PySem.PassesOwn.never
def zZ0:=@PyProof.Rows.wpS_mono
def zZ1:=@List.take_sublist
def zZ2:=@decide_eq_true_eq
def zZ3:=@List.take_add_one
def zZ4:=@List.drop_sublist
def zZ5:=@PySem.wpAny_setState_of
def zZ6:=@Array.toList_push
def zZ7:=@PySem.wpAny_attempt
def zZ8:=@Int.eq_ofNat_of_zero_le
def zZ9:=@beq_eq_false_iff_ne
def z00:=@PySem.Heap.SameBut.update
def z01:=@List.drop_length
def z02:=@PySem.wpAny_askSetting
def z03:=@List.take_of_length_le
def z04:=@List.Perm.append_right
def z05:=@Nat.lt_trans
def z06:=@Int.le_of_lt
def z07:=@Int.le_trans
def z08:=@List.mem_filter
def z09:=@PySem.wpAny_passesOwn
def z21:=@PySem.Heap.get?_update_self
def z22:=@PySem.wpAny_updateSeq
def z23:=@List.extract_eq_take_drop
def z24:=@PyProof.Rows.wpS_modify
def z25:=@Array.toList_reverse
def z26:=@List.getElem?_take_of_lt
def z27:=@List.all_eq_true
def z28:=@List.filter_cons
def z29:=@List.cons_append
def z30:=@PySem.F.called_set
def z31:=@PySem.wpAny_setEntries_of
def z32:=@List.reverse_append
def z33:=@PyProof.Rows.slot_tuple_getitem
def z34:=@PySem.F.plainAttrs_list
def z35:=@PySem.plainId_quiet
def z36:=@List.take_add
def z37:=@PySem.wpAny_Call_Name_kw
def z38:=@Bool.or_eq_true
def z39:=@Nat.min_eq_left
def z40:=@PySem.wpAny_of_eq
def z41:=@PySem.wpAny_pyIter_list
def z42:=@List.getElem_drop
def z43:=@Bool.false_and
def z44:=@PySem.codeAny_mono
def z45:=@if_true
def z46:=@Nat.succ_pos
def z47:=@PySem.builtinLookup_eq_fast
def z48:=@beq_iff_eq
def z49:=@if_false
def z50:=@Nat.mul_le_mul_right
def z51:=@Array.toList_extract
def z52:=@List.any_cons
def z53:=@Array.perm_iff_toList_perm
def z54:=@PyProof.Rows.listUpdate_at
def z55:=@List.filterMap_cons
def z56:=@List.length_reverse
def z57:=@List.getElem_of_mem
def z58:=@List.nodup_cons
def z59:=@Nat.div_add_mod
def z60:=@List.map_map
def z61:=@of_decide_eq_false
def z62:=@Int.emod_lt_of_pos
def z63:=@PyProof.Rows.take_snoc
def z64:=@PySem.wpAny_newTuple
def z65:=@List.getElem?_cons_succ
def z66:=@PySem.F.args_zip_next_1
def z67:=@List.pairwise_singleton
def z68:=@PySem.Heap.get?_push_ne
def z69:=@PySem.fits_of_scanBound
def z70:=@Nat.add_mul
def z71:=@PySem.F.entry_zip_next
def z72:=@PySem.strLen_append
def z73:=@Nat.min_le_right
def z74:=@List.ext_getElem
def z75:=@PySem.Heap.size_update
def z76:=@PySem.wpAny_isInstance
def z77:=@List.any_eq_true
def z78:=@PySem.W.methodCall_KW
def z79:=@List.length_filter_le
def z80:=@PySem.wpAny_execs_nil
def z81:=@Bool.eq_iff_iff
def z82:=@Int.not_le
def z83:=@List.forIn_cons
def z84:=@PySem.wpAny_specialOf
def z85:=@PySem.typeLookup_type
def z86:=@Nat.not_lt_zero
def z87:=@Int.emod_nonneg
def z88:=@Nat.succ.inj
def z89:=@PySem.W.plainGet_of
def z90:=@List.filter_eq_self
def z91:=@List.mem_range
def z92:=@List.take_take
def z93:=@PySem.W.callWith_K
def z94:=@Int.natCast_nonneg
def z95:=@Int.lt_of_lt_of_le
def z96:=@List.forIn_toArray
def z97:=@List.all_cons
def z98:=@List.map_drop
section
variable {a b c d e f g A B C D E F G H I J K L:Nat}{p q r s t u v w P Q R S T U V W:Int}
theorem om0 (h:a<b):b-(a+1)<b-a:=by lia
theorem om5 (h:0=a-b)(i:b<=a):b=a:=by lia
theorem om6 (h:a+1=b-c):c<b:=by omega
theorem om7 (h:a+b=c-d):a=c-(d+b):=by omega
theorem om9 (h:(a:Int)<(b:Int)):a<b:=by omega
theorem zM4 :min a b+(b-a+c)=b+c:=by lia
theorem zJ1 (h:a+64<b):a+1<b:=(z05 (zQ8 (by decide) a) h)
theorem zI8 (h:a<=1000):((min b a:Nat):Int)<=1000:=by lia
theorem kH (h:a<64):a<=16777216:=(zR4 (z05 h (by decide:(64:Nat)<(16777216:Nat))))
theorem zM5 :p+(q+r)=p+q+r:=by lia
theorem zJ6 (h:p<=q)(i:r<=s):p+r<=s+q:=by lia
theorem zL4 (h:a+b<=c)(i:d<b):a+d<c:=by lia
theorem zB5 (h:a<=b)(i:c<=b):max a c<=b:=by lia
theorem zm0 (h:a<=7):a+1<=8:=(zP5 h (by decide:(7:Nat)<(8:Nat)))
theorem zm8 (h:a+b<=c)(i:d<=e+b)(j:e<=a):d<=c:=by lia
theorem zG5 (h:a+1+1<2):False:=by lia
theorem zj6 (h:2<=a)(i:a=b):0<b:=(zN4 (by decide:(0:Nat)<(2:Nat)) (zO0 h (zO9 i)))
theorem jK (h:a+(b+c)<=d):a+c+b<=d:=by lia
theorem eJ (h:a<b+1)(i:¬a=b):a<b:=by lia
theorem zH0 :a+(b+c)=a+c+b:=by lia
theorem zA7 :p-0=p:=by lia
theorem zH2 (h:p<=q):p+(((q-p).toNat:Nat):Int)=q:=by omega
theorem zg7 (h:a+b<=c):min b (c-a)=b:=by lia
theorem zA8 (h:a<b):((c+a:Nat):Int)<(c:Int)+(b:Int):=by omega
theorem zC0 (h:a+b<=c)(i:d=c):min b (d-a)=b:=by lia
theorem zG6 (h:a<b-c):c+a<b:=by omega
theorem zi5 (h:p+q=r+s+t):q=s+(t-(p-r)):=by lia
theorem zj7 (h:a<b)(i:b<=c):b-1<c:=by omega
theorem zj1 (h:(a:Int)=(b:Int)):b=a:=by lia
theorem zI5 (h:a-b=0)(i:b<=a):b=a:=by omega
theorem zF9 (h:a-b=c+1):b<a:=by omega
theorem zD0 (h:a-b=c+d):a-(b+d)=c:=by omega
theorem oK (h:a<b):b-1<b:=by lia
theorem zH6 (h:a<=b):(a:Int)-(b:Int)<=0:=by lia
theorem zC3 (h:a=16777216)(i:b<=a):¬(b:Int)≥2^63:=by lia
theorem zB9 (h:a=16777216)(i:b<=a):b<=1099511627776:=(zR4 (zP5 i (zP5 (zO9 h) (by decide:(16777216:Nat)<(1099511627776:Nat)))))
theorem cm (h:a=16777216)(i:b=c)(j:b<=a):(c:Int)<2^63:=by lia
theorem zg8 (h:a+3*(b+c)+d<e):a+c+3*b+d<e:=by lia
theorem zg9 (h:a+16*(b+c)+200<d):a+c+16*b+200<d:=by lia
theorem zz7 (h:a=b)(i:b<=c):a+(c-a)=c:=by lia
theorem fG (h:a<2^63)(i:p<(b:Int))(j:b<=a):p<2^63:=by lia
theorem bI (h:(-(a:Int))<=p)(i:a<=b)(j:b<2^63):(-(2^63))<=p:=by lia
theorem zi6 (h:p<0):max 0 (min (p+q) q)=(((p+q).toNat:Nat):Int):=by lia
theorem zm6 :max 0 (min p (a:Int))=((min p.toNat a:Nat):Int):=by lia
theorem zn4 (h:a<2^63)(i:b=c)(j:b<=a):(c:Int)<2^63:=by lia
theorem zl7 (h:a+b<=c)(i:a=d)(j:b=e):d+e<=c:=by lia
theorem zk1 (h:a<=b)(i:¬a=b):a<=b-1:=by lia
theorem zh1 (h:a<1)(i:b<=a):b=0:=by lia
theorem zi0 (h:a<1):a=0:=by lia
theorem jQ (h:a<=b+c+d):a<=b+(d+c):=by lia
theorem zk4 (h:a<b):b<=b-c+b-1-a+c:=by omega
theorem zj9 (h:a<b)(i:c<=a):c+b-1-a<b:=by omega
theorem zn7 (h:a-b<=c):a<=c+b:=by lia
theorem zn3 :¬(a<=b/\b<b):=by lia
theorem qu (h:a+1<=b+(0+1))(i:b<a+1):b=a:=by omega
theorem zo4 (h:a+b<=c+(d+b)):a<=c+d:=by lia
theorem zl5 :a<=a-b+(c+b):=by omega
theorem zl1 (h:a<b):0+b-1-c<b:=by omega
theorem dO (h:a<=b+(c-b))(i:b<=c):a<=c:=by omega
theorem zj0 (h:a<b):a<=b-1:=by omega
theorem zk7 (h:a>1):a-1<a:=by lia
theorem jq (h:a<b)(i:b<=c)(j:d<=1+(b-1)):d<=c:=by lia
theorem zo1 (h:a<b+1)(i:c<a):a-1<b:=by lia
theorem zH7 (h:a<=1000):a<=16777216:=(zR4 (zP5 h (by decide:(1000:Nat)<(16777216:Nat))))
theorem bN :a<a+5\/a+5<a:=(.inl (zV8 (by decide)))
theorem zk0 :a+4<a\/a<a+4:=(.inr (zV8 (by decide)))
theorem eS :a+4<a+5\/a+5<a+4:=(.inl (zQ8 (by decide) a))
theorem dm :a+1<a+5\/a+5<a+1:=(.inl (zQ8 (by decide) a))
theorem bC :a+1<a+4\/a+4<a+1:=(.inl (zQ8 (by decide) a))
theorem zh9 :a+4<a+1\/a+1<a+4:=(.inr (zQ8 (by decide) a))
theorem ae :a+2<a+5\/a+5<a+2:=(.inl (zQ8 (by decide) a))
theorem zn0 :a+2<a\/a<a+2:=(.inr (zV8 (by decide)))
theorem fJ :a+2<a+4\/a+4<a+2:=(.inl (zQ8 (by decide) a))
theorem zl0 :a+2<a+1\/a+1<a+2:=(.inr (zQ8 (by decide) a))
theorem zh7 :a+4<a+2\/a+2<a+4:=(.inr (zQ8 (by decide) a))
theorem eW :a+5<a+4\/a+4<a+5:=(.inr (zQ8 (by decide) a))
theorem zi7 :a+5<a+2\/a+2<a+5:=(.inr (zQ8 (by decide) a))
theorem zl6 :a+5<a+1\/a+1<a+5:=(.inr (zQ8 (by decide) a))
theorem zk8 :a+5<a\/a<a+5:=(.inr (zV8 (by decide)))
theorem eZ :a<a+4\/a+4<a:=(.inl (zV8 (by decide)))
theorem zj4 :a<a+2\/a+2<a:=(.inl (zV8 (by decide)))
theorem zk3 :a+1<a+2\/a+2<a+1:=(.inl (zQ8 (by decide) a))
theorem eU :a+3<a+5\/a+5<a+3:=(.inl (zQ8 (by decide) a))
theorem zi8 :a+3<a\/a<a+3:=(.inr (zV8 (by decide)))
theorem zm3 :a+3<a+1\/a+1<a+3:=(.inr (zQ8 (by decide) a))
theorem zm9 :a+3<a+2\/a+2<a+3:=(.inr (zQ8 (by decide) a))
theorem zi2 (h:(-(2^62))<=p):(-(2^63))<=p:=by lia
theorem zh0 (h:p<2^62):p<2^63:=by lia
end
set_option maxRecDepth 100000
namespace L2
open PySem PySem.Spec PyProof.Rows
abbrev Key :=Sum Int Str
def qP :Key->Value->Bool
 |.inl k,v=>Value.isInt k v
 |.inr x,v=>Value.isStrOf x v
def zJ5 (w:World):Key->Int
 |.inl k=>hashInt k
 |.inr x=>hashStr w x
theorem zV :∀{k:Key}{v:Value},qP k v=true->(∃i t,k=Sum.inl i/\v=Value.int i t)\/(∃x t,k=Sum.inr x/\v=Value.str x t)
 |.inl i,v,h=>by
  obtain⟨t,e⟩:=Value.isInt_shape (k:=i) (v:=v) h;exact .inl ⟨i,t,rfl,e⟩
 |.inr x,v,h=>by
  obtain⟨t,e⟩:=Value.isStrOf_shape (x:=x) (v:=v) h;exact .inr ⟨x,t,rfl,e⟩
theorem iu (i:Int)(t:Tok):qP (.inl i) (.int i t)=true:=by simp[qP,Value.isInt]
theorem gP (x:Str)(t:Tok):qP (.inr x) (.str x t)=true:=by simp[qP,Value.isStrOf]
theorem zr2 (a b:Int):decide ((Sum.inl a:Key)=Sum.inl b)=(a == b):=by
 by_cases e:a=b
 ·subst e;simp
 ·have h:¬(Sum.inl a:Key)=Sum.inl b:=λq=>e (Sum.inl.inj q);rw[zQ3 h];exact(zZ9.mpr e).symm
theorem zy5 (a b:Str):decide ((Sum.inr a:Key)=Sum.inr b)=decide (a=b):=by
 by_cases e:a=b
 ·subst e;simp
 ·have h:¬(Sum.inr a:Key)=Sum.inr b:=λq=>e (Sum.inr.inj q);rw[zQ3 h,zQ3 e]
theorem zr1 (a:Int)(b:Str):decide ((Sum.inl a:Key)=Sum.inr b)=false:=zQ3 (λq=>nomatch q)
theorem zw6 (a:Str)(b:Int):decide ((Sum.inr a:Key)=Sum.inl b)=false:=zQ3 (λq=>nomatch q)
def yE (prog:Program)(w:World):PySem.KeyKind prog w Key where
 is:=qP
 hash:=zJ5 w
 inj:=λv a b ha hb=>by
  rcases zV ha with⟨i,t,rfl,rfl⟩|⟨x,t,rfl,rfl⟩
  ·rcases zV hb with⟨j,u,rfl,e⟩|⟨y,u,rfl,e⟩
   ·injection e with e1 _;rw[e1]
   ·exact nomatch e
  ·rcases zV hb with⟨j,u,rfl,e⟩|⟨y,u,rfl,e⟩
   ·exact nomatch e
   ·injection e with e1 _;rw[e1]
 byValue:=λk v h=>by
  rcases zV h with⟨i,t,rfl,rfl⟩|⟨x,t,rfl,rfl⟩<;>rfl
 pyHash:=λc h=>by
  rcases zV c with⟨i,t,rfl,rfl⟩|⟨x,t,rfl,rfl⟩
  ·exact wpAny_pyHash_int h
  ·exact wpAny_pyHash_str h
 eqBool:=λd c h=>by
  rcases zV d with⟨i,t,rfl,rfl⟩|⟨x,t,rfl,rfl⟩
  ·rcases zV c with⟨j,u,rfl,rfl⟩|⟨y,u,rfl,rfl⟩
   ·rw[zr2]at h;exact wpAny_eqBool_int h
   ·rw[zr1]at h;exact SeqAt.EqAt.int_str i t y u _ _ _ _ h
  ·rcases zV c with⟨j,u,rfl,rfl⟩|⟨y,u,rfl,rfl⟩
   ·rw[zw6]at h;exact SeqAt.EqAt.str_int x t j u _ _ _ _ h
   ·rw[zy5]at h;exact wpAny_eqBool_str h
 «strs»:=λk x t v h=>by
  rcases zV h with⟨i,u,rfl,e⟩|⟨y,u,rfl,e⟩
  ·exact nomatch e
  ·injection e with e1 _;subst e1;cases v<;>rfl
theorem mD (prog:Program)(w:World)(i:Int)(t:Tok):(yE prog w).is (.inl i) (.int i t)=true:=iu i t
theorem nM (prog:Program)(w:World)(x:Str)(t:Tok):(yE prog w).is (.inr x) (.str x t)=true:=gP x t
inductive V where
 |non|bl (b:Bool)|int (i:Int)|str (x:Str)|byt (b:Array UInt8)|flt (b:UInt64)|ref (a:Addr)|ty (n:String)
 deriving DecidableEq
def RelV :V->Value->Prop
 |.non,u=>u=Value.none
 |.bl b,u=>u=Value.bool b
 |.int i,u=>∃t,u=Value.int i t
 |.str x,u=>∃t,u=Value.str x t
 |.byt b,u=>∃t,u=Value.bytes b t
 |.flt b,u=>∃t,u=Value.float b t
 |.ref a,u=>u=Value.ref a
 |.ty n,u=>u=Value.type n
abbrev Vals :List V->List Value->Prop:=Paired RelV
theorem Vals.length {xs:List V}{us:List Value}(r:Vals xs us):xs.length=us.length:=Paired.length r
theorem Vals.get :∀{xs:List V}{us:List Value}{i:Nat}{x:V},Vals xs us->xs[i]?=some x->∃u,us[i]?=some u/\RelV x u
 |_,_,_,_,.nil,e=>by simp at e
 |_,_,0,_,.cons r _,e=>by simp at e;subst e;exact⟨_,rfl,r⟩
 |_,_,i+1,x,.cons _ t,e=>by
  obtain⟨u,a,b⟩:=Vals.get (i:=i) (x:=x) t (by simpa using e);exact⟨u,by simpa using a,b⟩
theorem Vals.set {x:V}{u:Value}(r:RelV x u):∀{xs:List V}{us:List Value} (i:Nat),Vals xs us->Vals (xs.set i x) (us.set i u)
 |_,_,_,.nil=>.nil
 |_,_,0,.cons _ t=>.cons r t
 |_,_,i+1,.cons q t=>.cons q (Vals.set r i t)
theorem Vals.append {xs ys:List V}{us ws:List Value}(h:Vals xs us)(s:Vals ys ws):Vals (xs++ys) (us++ws):=by
 induction h with
 |nil=>exact s
 |cons r _ a=>exact .cons r a
theorem Vals.take :∀{xs:List V}{us:List Value} (n:Nat),Vals xs us->Vals (xs.take n) (us.take n)
 |_,_,0,_=>.nil
 |_,_,_+1,.nil=>.nil
 |_,_,n+1,.cons r t=>.cons r (Vals.take n t)
theorem Vals.drop :∀{xs:List V}{us:List Value} (n:Nat),Vals xs us->Vals (xs.drop n) (us.drop n)
 |_,_,0,r=>r
 |_,_,_+1,.nil=>.nil
 |_,_,n+1,.cons _ t=>Vals.drop n t
def vp :Option V->Option Value->Prop
 |some v,some u=>RelV v u
 |none,none=>True
 |_,_=>False
def KV {a:Type}:List (a×V)->List (a×Value)->Prop:=Paired λ(p:a×V) (q:a×Value)=>p.1=q.1/\RelV p.2 q.2
def kV :Key->V
 |.inl i=>.int i
 |.inr x=>.str x
inductive HO where
  |lst (xs:List V)
  |tup (xs:List V)
  |dK (kvs:List (Key×V))|dT (kvs:List (List Key×V))
  |set (S:Int->Bool) (n:Nat)
  |ins (C dx:Addr) (fs:List (Str×V))
  |own (x:Addr)
  |xd (fs:List (Str×V))
  |met (f x:Addr)
  |rng (lo hi:Int)
  |frz (o:Obj) (u:HO)
  |tbl (ps:Array Value)
  |ext (φ:Heap->Prop)
abbrev Hp :=Addr->Option HO
def upd (H:Hp)(a:Addr)(o:HO):Hp:=λb=>if b=a then some o else H b
theorem zm {H:Hp}{a:Addr}{o:HO}:upd H a o a=some o:=by unfold upd;rw[if_pos rfl]
theorem zj {H:Hp}{a b:Addr}{o:HO}(h:b≠a):upd H a o b=H b:=by unfold upd;rw[if_neg h]
theorem pI {H:Hp}{a:Addr}{o u:HO}:upd (upd H a o) a u=upd H a u:=by funext b;unfold upd;split<;>rfl
theorem zo {H:Hp}{a b:Addr}{o:HO}(h:H a=some o)(h':H b=none):a≠b:=by intro e;subst e;rw[h]at h';cases h'
section
variable (P:Program)(w:World)
def zT (H:Hp)(h:Heap)(a:Addr):HO->Prop
 |.lst xs=>xs.length<=sizeLine/\∃(its:List Value) (n:Nat),Vals xs its/\h.get? a=some {cls:=.type "list",data:=.seq its.toArray n}
 |.tup xs=>xs.length<=sizeLine/\∃its:List Value,Vals xs its/\IsTup h a its.toArray
 |.dK kvs=>kvs.length<=sizeLine/\(a == sysModules)=false/\∃vs,KV kvs vs/\h.DictOf (yE P w) a vs
 |.dT kvs=>kvs.length<=sizeLine/\(a == sysModules)=false/\∃xs:List (List Key×Addr×Value),
   Paired (λ(p:List Key×V) (q:List Key×Addr×Value)=>p.1=q.1/\H q.2.1=some (.tup (p.1.map kV))/\RelV p.2 q.2.2) kvs xs/\
   ∃o es ep,h.get? a=some o/\o.ExactDict/\o.data=.dict es ep/\es.toList=xs.map (entryOfKey (tupleKind (yE P w)))/\(xs.map (·.1)).Nodup
 |.set S n=>h.SetOf (intKind P w) a S n
 |.ins C dx fs=>H dx=some (.own a)/\fs.length<=1000/\dx≠a/\h.get? a=some (PySem.W.instObj C dx)/\
   ∃mA,h.Ns1 dx mA/\(∀f,vp (fs.lookup f) (mA f))/\PySem.Within mA (fs.map (·.1))
 |.own _=>∃o,h.get? a=some o
 |.xd fs=>∃mA,h.Ns1 a mA/\∀f,vp (fs.lookup f) (mA f)
 |.rng lo hi=>∃t u v,h.get? a=some {cls:=.type "range",data:=.fields #[.int lo t,.int hi u,.int 1 v]}
 |.frz o u=>h.get? a=some o/\zT H h a u
 |.tbl ps=>h.get? a=some {cls:=.none,data:=.fields ps}
 |.met f x=>h.get? a=some (PySem.W.methodObj (.ref f) (.ref x))
 |.ext φ=>φ h/\(∃o,h.get? a=some o)/\∀b c:Heap,φ b->(∀o,b.get? a=some o->c.get? a=some o)->φ c
def HOk (H:Hp)(h:Heap):Prop:=∀a o,H a=some o->zT P w H h a o
end
section
variable {P:Program}{w:World}{H H':Hp}{h h':Heap}{a:Addr}{o:HO}
theorem zT.lt (x:zT P w H h a o):a<h.objs.size:=by
 cases o with
 |lst xs=>obtain⟨_,_,_,_,e⟩:=x;exact zO4 e
 |tup xs=>obtain⟨_,_,_,p⟩:=x;exact p.lt
 |dK kvs=>obtain⟨_,_,_,_,o,_,_,e,_⟩:=x;exact zO4 e
 |dT kvs=>obtain⟨_,_,_,_,o,_,_,e,_⟩:=x;exact zO4 e
 |set S n=>obtain⟨o,_,_,_,e,_⟩:=x;exact zO4 e
 |ins C dx fs=>obtain⟨_,_,_,e,_⟩:=x;exact zO4 e
 |own y=>obtain⟨_,e⟩:=x;exact zO4 e
 |xd fs=>obtain⟨_,⟨_,_,_,e,_⟩,_⟩:=x;exact zO4 e
 |rng lo hi=>obtain⟨_,_,_,e⟩:=x;exact zO4 e
 |frz ob u=>obtain⟨e,_⟩:=x;exact zO4 e
 |tbl ps=>exact zO4 (show h.get? a=some _ from x)
 |met f y=>exact zO4 (show h.get? a=some _ from x)
 |ext φ=>obtain⟨_,⟨_,e⟩,_⟩:=x;exact zO4 e
theorem Paired.mapP {α β:Type}{F G:α->β->Prop}{c:List α}{d:List β}(h:Paired F c d)(f:∀a b,F a b->G a b):Paired G c d:=by
 induction h with
 |nil=>exact .nil
 |cons r _ e=>exact .cons (f _ _ r) e
theorem zT.stay (x:zT P w H h a o)(k:∀b u,(b=a\/H b=some (.own a))->h.get? b=some u->h'.get? b=some u)
  (i:∀b,H b=some (.own a)->H' b=some (.own a)) (j:∀b xs,H b=some (.tup xs)->H' b=some (.tup xs)):zT P w H' h' a o:=by
 induction o with
 |lst xs=>obtain⟨z,its,n,r,e⟩:=x;exact⟨z,its,n,r,k _ _ (.inl rfl) e⟩
 |tup xs=>obtain⟨z,its,r,ob,e,c⟩:=x;exact⟨z,its,r,ob,k _ _ (.inl rfl) e,c⟩
 |dK kvs=>obtain⟨z,y,vs,r,ob,es,ep,e,c⟩:=x;exact⟨z,y,vs,r,ob,es,ep,k _ _ (.inl rfl) e,c⟩
 |dT kvs=>
  obtain⟨z,y,xs,r,ob,es,ep,e,c⟩:=x;exact⟨z,y,xs,Paired.mapP r λp q z=>⟨z.1,j _ _ z.2.1,z.2.2⟩,ob,es,ep,k _ _ (.inl rfl) e,c⟩
 |set S n=>obtain⟨ob,es,ep,t,e,c⟩:=x;exact⟨ob,es,ep,t,k _ _ (.inl rfl) e,c⟩
 |ins C dx fs=>
  obtain⟨d,z,ne,e,mA,⟨od,es,ep,g,c⟩,r⟩:=x;exact⟨i _ d,z,ne,k _ _ (.inl rfl) e,mA,⟨od,es,ep,k _ _ (.inr d) g,c⟩,r⟩
 |own y=>obtain⟨ob,e⟩:=x;exact⟨ob,k _ _ (.inl rfl) e⟩
 |xd fs=>obtain⟨mA,⟨od,es,ep,e,c⟩,r⟩:=x;exact⟨mA,⟨od,es,ep,k _ _ (.inl rfl) e,c⟩,r⟩
 |rng lo hi=>obtain⟨t,u,v,e⟩:=x;exact⟨t,u,v,k _ _ (.inl rfl) e⟩
 |frz ob u l=>obtain⟨e,q⟩:=x;exact⟨k _ _ (.inl rfl) e,l q⟩
 |tbl ps=>
  have e:h.get? a=some {cls:=.none,data:=.fields ps}:=x;show h'.get? a=some {cls:=.none,data:=.fields ps};exact k a _ (.inl rfl) e
 |met f y=>
  have e:h.get? a=some (PySem.W.methodObj (.ref f) (.ref y)):=x;show h'.get? a=some (PySem.W.methodObj (.ref f) (.ref y));exact k a _ (.inl rfl) e
 |ext φ=>obtain⟨p,⟨o,e⟩,st⟩:=x;exact⟨st _ _ p λo q=>k _ _ (.inl rfl) q,⟨o,k _ _ (.inl rfl) e⟩,st⟩
theorem HOk.lt (x:HOk P w H h)(e:H a=some o):a<h.objs.size:=(x a o e).lt
theorem HOk.fresh (x:HOk P w H h)(e:h.objs.size<=a):H a=none:=by
 cases q:H a with
 |none=>rfl
 |some u=>exact absurd (zN4 (x.lt q) e) (zT2 _)
theorem HOk.kept (x:HOk P w H h)(k:∀b u,h.get? b=some u->h'.get? b=some u):HOk P w H h':=λa o e=>
 (x a o e).stay (λb u _ q=>k b u q) (λ_ q=>q) λ_ _ q=>q
theorem HOk.laid (x:HOk P w H h)(k:∀b u,h.get? b=some u->h'.get? b=some u)(d:h.objs.size<=a)(new:zT P w (upd H a o) h' a o):HOk P w (upd H a o) h':=λb u e=>by
 have hn:=x.fresh d;by_cases hb:b=a
 ·subst hb;rw[zm]at e;cases e;exact new
 ·rw[zj hb]at e;exact(x b u e).stay (λc v _ q=>k c v q) (λc q=>by rw[zj (zo q hn)];exact q) λc xs q=>by rw[zj (zo q hn)];exact q
end
def Rd (H:Hp)(a:Addr)(u:HO):Prop:=H a=some u\/∃o,H a=some (.frz o u)
theorem Rd.ok {P:Program}{w:World}{H:Hp}{h:Heap}{a:Addr}{u:HO}(r:Rd H a u)(x:HOk P w H h):zT P w H h a u:=by
 rcases r with r|⟨o,r⟩
 ·exact x a u r
 ·obtain⟨_,q⟩:=x a _ r;exact q
def Mut :Option HO->Prop
 |some (.lst _)=>True
 |some (.dK _)=>True
 |some (.dT _)=>True
 |some (.set _ _)=>True
 |some (.ins _ _ _)=>True
 |some (.ext _)=>True
 |_=>False
section
variable {P:Program}{w:World}{H:Hp}{h h':Heap}{x e:Addr}{o':HO}
theorem HOk.write (ok:HOk P w H h)(i:Mut (H x))(he:e=x\/H e=some (.own x))(k:∀b u,b≠e->h.get? b=some u->h'.get? b=some u)(j:∃u,h'.get? e=some u)
  (new:zT P w (upd H x o') h' x o'):HOk P w (upd H x o') h':=λb u q=>by
 have d:∀c y,H c=some (.own y)->c≠x:=λc y r z=>by subst z;rw[r]at i;exact i
 have f:∀c xs,H c=some (.tup xs)->c≠x:=λc xs r z=>by subst z;rw[r]at i;exact i
 by_cases hb:b=x
 ·subst hb;rw[zm]at q;cases q;exact new
 ·rw[zj hb]at q;by_cases a:b=e
  ·have l:H b=some (.own x):=by
    rcases he with z|z
    ·exact absurd (a.trans z) hb
    ·rw[a];exact z
   rw[q]at l;cases l;obtain⟨v,m⟩:=j;exact⟨v,by rw[a];exact m⟩
  ·refine(ok b u q).stay (λc v g r=>k c v ?_ r) (λc r=>by rw[zj (d c b r)];exact r) λc xs r=>by rw[zj (f c xs r)];exact r
   rcases g with rfl|g
   ·exact a
   ·rintro rfl;rcases he with z|z
    ·exact d c b g z
    ·rw[g]at z;cases z;exact hb rfl
end
structure Un (fs ex:List Addr)(H H':Hp)(h h':Heap):Prop where
 keep:∀b o,h.get? b=some o->H b=none->b∉fs->b∉ex->h'.get? b=some o
 slot:∀b o,h.get? b=some o->H b=none->b∈fs->b∉ex->∃sl,h'.get? b=some {o with slots:=sl}
 free:∀b o,h.get? b=some o->H b=none->b∉ex->H' b=none
 there:∀b o,h.get? b=some o->b∉ex->∃o',h'.get? b=some o'
 tups:∀b xs,H b=some (.tup xs)->H' b=some (.tup xs)
 frzs:∀b o u,H b=some (.frz o u)->H' b=some (.frz o u)
 tbls:∀b ps,H b=some (.tbl ps)->∃more,H' b=some (.tbl (ps++more))
section
variable {fs fs' ex ex':List Addr}{H H1 H2:Hp}{h h1 h2 h':Heap}{a x e:Addr}{o:HO}
theorem Un.any (u:Un fs ex H H1 h h1){b:Addr}{ob:Obj}(q:h.get? b=some ob)(n:H b=none)(c:b∉ex):∃sl,h1.get? b=some {ob with slots:=sl}:=by
 by_cases hb:b∈fs
 ·exact u.slot b ob q n hb c
 ·exact⟨ob.slots,u.keep b ob q n hb c⟩
theorem Un.kept (k:∀b u,h.get? b=some u->h'.get? b=some u):Un fs ex H H h h':=
 ⟨λb ob q _ _ _=>k b ob q,λb ob q _ _ _=>⟨ob.slots,k b ob q⟩,λ_ _ _ n _=>n,λb ob q _=>⟨ob,k b ob q⟩,λ_ _ q=>q,λ_ _ _ q=>q,λ_ ps q=>⟨#[],by rw[q];simp⟩⟩
theorem Un.refl :Un fs ex H H h h:=Un.kept λ_ _ q=>q
theorem Un.laid (k:∀b u,h.get? b=some u->h'.get? b=some u)(c:h.objs.size<=a)(hn:H a=none):Un fs ex H (upd H a o) h h' where
 keep:=λb u q _ _ _=>k b u q
 slot:=λb u q _ _ _=>⟨u.slots,k b u q⟩
 free:=λb u q n _=>by rw[zj (zP1 (zN4 (zO4 q) c))];exact n
 there:=λb u q _=>⟨u,k b u q⟩
 tups:=λb xs q=>by rw[zj (zo q hn)];exact q
 frzs:=λb u xs q=>by rw[zj (zo q hn)];exact q
 tbls:=λb ps q=>⟨#[],by rw[zj (zo q hn),q];simp⟩
theorem Un.write (d:Mut (H x))(he:e=x\/H e=some (.own x))(k:∀b u,b≠e->h.get? b=some u->h'.get? b=some u)(f:∃u,h'.get? e=some u):Un fs ex H (upd H x o) h h':=by
 have g:∀b,H b=none->b≠x:=λb n z=>by subst z;rw[n]at d;exact d
 have hb:∀b,H b=none->b≠e:=λb n z=>by
  subst z;rcases he with r|r
  ·exact g b n r
  ·rw[n]at r;cases r
 have hm:∀b u,H b=some u->¬Mut (some u)->b≠x:=λb u q nm z=>by subst z;rw[q]at d;exact nm d
 refine⟨λb u q n _ _=>k b u (hb b n) q,λb u q n _ _=>⟨u.slots,k b u (hb b n) q⟩,λb u q n _=>by rw[zj (g b n)];exact n,λb u q _=>?_,
  λb xs q=>by rw[zj (hm b _ q λz=>z)];exact q,λb u xs q=>by rw[zj (hm b _ q λz=>z)];exact q,λb ps q=>⟨#[],by rw[zj (hm b _ q λz=>z),q];simp⟩⟩
 by_cases c:b=e
 ·subst c;exact f
 ·exact⟨u,k b u c q⟩
end
def trk (h:Heap)(H:Hp):List Addr:=(List.range h.objs.size).filter λa=>(H a).isSome
def qo (h:Heap)(H:Hp):Heap:=PySem.W.hideAll h (trk h H)
theorem iF (h:Heap)(H:Hp):(qo h H).objs.size=h.objs.size:=PySem.W.hideAll_size _ _
theorem fj {h:Heap}{H:Hp}{b:Addr}{o:Obj}(e:h.get? b=some o)(n:H b=none):(qo h H).get? b=some o:=
 PySem.W.hideAll_get _ e λhm=>by
  have q:(H b).isSome=true:=(z08.mp hm).2;rw[n]at q;simp at q
theorem zb8 {h:Heap}{H:Hp}{b:Addr}{o:Obj}(e:(qo h H).get? b=some o):h.get? b=some o/\H b=none:=by
 have a:h.get? b=some o:=PySem.W.of_hideAll (trk h H) e;refine⟨a,?_⟩;cases q:H b with
 |none=>rfl
 |some x=>
  have hm:b∈trk h H:=z08.mpr ⟨z91.mpr (zO4 a),by simp[q]⟩;have z:(qo h H).get? b=none:=PySem.W.hideAll_none (trk h H) hm;rw[z]at e;cases e
structure Mod (K:PySem.W.Frag)(mg:Str->Option Value)(base:Heap):Prop where
 kin:K.In base
 glob:base.Ns mainGlobals mg
 blt:∃mb,base.Ns builtinsNs mb/\∀x:Str,x≠"__name__"->mb x=bootBuiltins x
 nolimit:base.NoLimit
structure Cx where
 prog:Program
 w:World
 K:PySem.W.Frag
 mg:Str->Option Value
 base:Heap
 A:Around
 N:List Str
 s₀:Shared
 H₀:Hp
 env:Env
 outer:List Env
 stack:List Env
 ex:List Addr
 fn:Str->Bool
 calm:Bool
 pn:List (Addr×Obj)
 xe:Value->Shared->Prop
def frs (l:List Env):List Addr:=l.filterMap (·.frame)
abbrev Cx.fs (X:Cx):List Addr:=frs X.outer
def Vis (sc:Scope)(x:Str):Prop:=sc.names.lookup x=some .local\/sc.names.lookup x=some .cell\/sc.names.lookup x=some .free
def Loc (sc:Scope)(x:Str):Prop:=sc.names.lookup x=some .local\/sc.names.lookup x=some .cell
def Look (env:Env)(h:Heap)(m:Str->Option Value)(x:Str)(u:Value):Prop:=
 (env.kindOf x=some .local/\m x=some u)\/((env.kindOf x=some .cell\/env.kindOf x=some .free)/\∃c,env.cells.lookup x=some c/\h.IsCell c (some u))
structure Cx.Ok (X:Cx):Prop where
 mod:Mod X.K X.mg X.base
 kind:X.env.scope.kind=.function
 glob:X.env.globals=mainGlobals
 blt:X.env.builtins=builtinsNs
 above:X.s₀.heap.objs.size<=X.env.locals
 inj:∀x y c,X.env.cells.lookup x=some c->X.env.cells.lookup y=some c->x=y
 has:∀x,(X.env.kindOf x=some .cell\/X.env.kindOf x=some .free)->∃c,X.env.cells.lookup x=some c
 cab:∀x c,X.fn x=true->X.env.cells.lookup x=some c->X.s₀.heap.objs.size<=c
 hd:X.calm=true->X.A.handled=none
 frames:X.A.frames=some X.stack
 stk:X.stack=X.outer\/(X.stack=X.env::X.outer/\X.env.frame=some X.env.locals)
 exf:∀b∈X.ex,b≠X.env.locals/\∀x c,X.env.cells.lookup x=some c->c≠b
 bs:∀b o,X.base.get? b=some o->X.s₀.heap.get? b=some o/\X.H₀ b=none
 bsz:X.base.objs.size<=X.s₀.heap.objs.size
 noex:∀b o,X.base.get? b=some o->b∉X.ex
 exfs:∀b∈X.ex,b∉X.fs
 funs:X.s₀.heap.FunFrames X.base X.outer
 frf:∀b∈X.fs,X.H₀ b=none
structure Inv (X:Cx)(pins:List (Addr×Obj))(σ:List (Option V))(H:Hp)(s:Shared):Prop where
 ok:X.Ok
 os:s.os=X.s₀.os
 bare:AllBare s.gens
 base:Un X.fs X.ex X.H₀ H X.s₀.heap s.heap
 loc:∃m,s.heap.Ns X.env.locals m/\∀(i:Nat) (x:Str) (v:V),X.N[i]?=some x->σ[i]?=some (some v)->Vis X.env.scope x->∃u,RelV v u/\Look X.env s.heap m x u
 cell:∀x c,X.env.cells.lookup x=some c->∃v,s.heap.IsCell c v
 free:H X.env.locals=none
 freeC:∀x c,X.env.cells.lookup x=some c->H c=none
 pin:∀p∈X.pn++pins,s.heap.get? p.1=some p.2/\H p.1=none/\p.1≠X.env.locals/\p.1∉X.fs/\∀v,p.2.data≠.cell v
 hok:HOk X.prog X.w H s.heap
 len:σ.length=X.N.length
section
variable {X:Cx}{pins:List (Addr×Obj)}{σ:List (Option V)}{H H':Hp}{s:Shared}{h':Heap}
theorem Cx.Ok.nofr (ok:X.Ok){b:Addr}{o:Obj}(e:X.base.get? b=some o):b∉X.fs:=λhb=>by
 have:=(ok.funs.mem hb).1;rw[e]at this;cases this
theorem Inv.bs (I:Inv X pins σ H s):∀b o,X.base.get? b=some o->s.heap.get? b=some o/\H b=none:=λb o e=>
 ⟨I.base.keep b o (I.ok.bs b o e).1 (I.ok.bs b o e).2 (I.ok.nofr e) (I.ok.noex b o e),I.base.free b o (I.ok.bs b o e).1 (I.ok.bs b o e).2 (I.ok.noex b o e)⟩
theorem Inv.bk (I:Inv X pins σ H s):∀b o,X.base.get? b=some o->s.heap.get? b=some o:=λb o e=>(I.bs b o e).1
theorem Inv.mod (I:Inv X pins σ H s):Mod X.K X.mg X.base:=I.ok.mod
theorem Inv.kIn (I:Inv X pins σ H s):X.K.In s.heap:=I.ok.mod.kin.keeps I.bk
theorem Inv.lt (I:Inv X pins σ H s):X.env.locals<s.heap.objs.size:=let⟨_,hn,_⟩:=I.loc;hn.lt
theorem Inv.sz (I:Inv X pins σ H s):X.s₀.heap.objs.size<=s.heap.objs.size:=zO0 I.ok.above (zR4 I.lt)
theorem Inv.nofs (I:Inv X pins σ H s){a:Addr}(h:s.heap.objs.size<=a):a∉X.fs:=λhb=>by
 obtain⟨_,o,b,_⟩:=I.ok.funs.mem hb;exact absurd (zN4 (zO4 b) (zO0 I.sz h)) (zT2 _)
theorem Inv.cne (I:Inv X pins σ H s):∀x c,X.env.cells.lookup x=some c->c≠X.env.locals:=λx c e z=>by
 obtain⟨v,o,d,hd⟩:=I.cell x c e;obtain⟨m,⟨o',es,ep,b,a,_⟩,_⟩:=I.loc;rw[z,b]at d;cases d;rw[a]at hd;cases hd
theorem Inv.funs (I:Inv X pins σ H s):s.heap.FunFrames X.base X.outer:=by
 have all:∀(l:List Env),(∀b∈frs l,b∈X.fs)->X.s₀.heap.FunFrames X.base l->s.heap.FunFrames X.base l:=by
  intro l
  induction l with
  |nil=>intro _ _;trivial
  |cons env r f=>
   intro c g;obtain⟨hk,⟨L,o,hf,hn,d,hd⟩,hr⟩:=g;have a:L∈X.fs:=c L (by unfold frs;rw[z55,hf];exact zO1);obtain⟨sl,e⟩:=I.base.slot L o d (I.ok.frf L a) a λz=>I.ok.exfs L z a;exact⟨hk,⟨L,_,hf,hn,e,hd⟩,f (λb hb=>c b (by unfold frs;rw[z55,hf];exact zN7 _ hb)) hr⟩
 exact all X.outer (λ_ hb=>hb) I.ok.funs
theorem Inv.stack (I:Inv X pins σ H s):s.heap.FunFrames X.base X.stack:=by
 rcases I.ok.stk with e|⟨e,hf⟩
 ·rw[e];exact I.funs
 ·rw[e];obtain⟨m,hn,_⟩:=I.loc;refine .cons (by rw[I.ok.kind];decide) hf hn ?_ I.funs;exact Heap.get?_none_of_le (zO0 I.ok.bsz I.ok.above)
theorem Inv.stkSub (I:Inv X pins σ H s):∀b∈frs X.stack,b∈X.env.locals::X.fs:=λb hb=>by
 rcases I.ok.stk with e|⟨e,hf⟩
 ·rw[e]at hb;exact zN7 _ hb
 ·rw[e]at hb;unfold frs at hb;rw[z55,hf]at hb;exact hb
theorem Inv.stkFree (I:Inv X pins σ H s):∀b∈frs X.stack,H b=none:=λb hb=>by
 rcases zN6.mp (I.stkSub b hb)with e|hb
 ·rw[e];exact I.free
 ·obtain⟨_,o,a,_⟩:=I.ok.funs.mem hb;exact I.base.free b o a (I.ok.frf b hb) λz=>I.ok.exfs b z hb
theorem Inv.step {g':Array GenState}{t':Nat}{d':Drawn}{ch:List Addr}(I:Inv X pins σ H s)
  (f:∀b∈ch,(b∈X.ex\/X.s₀.heap.objs.size<=b)/\b≠X.env.locals/\(∀x c,X.env.cells.lookup x=some c->c≠b)/\∀p∈X.pn++pins,p.1≠b)
  (keep:∀b o,b≠X.env.locals->b∉X.fs->b∉ch->s.heap.get? b=some o->H b=none->h'.get? b=some o)
  (slot:∀b o,b≠X.env.locals->b∈X.fs->b∉ch->s.heap.get? b=some o->H b=none->∃sl,h'.get? b=some {o with slots:=sl}) (free:∀b o,b∉ch->s.heap.get? b=some o->H b=none->H' b=none)
  (there:∀b o,b∉ch->s.heap.get? b=some o->∃o',h'.get? b=some o')
  (tups:∀b xs,H b=some (.tup xs)->H' b=some (.tup xs)) (frzs:∀b o u,H b=some (.frz o u)->H' b=some (.frz o u)) (tbls:∀b ps,H b=some (.tbl ps)->∃more,H' b=some (.tbl (ps++more)))
  (ns:∀m,s.heap.Ns X.env.locals m->h'.Ns X.env.locals m) (hok:HOk X.prog X.w H' h') (hg:AllBare g'):
  Inv X pins σ H' {s with heap:=h',gens:=g',drawn:=d',toks:=t'}:=by
 have y:∀b o,X.s₀.heap.get? b=some o->b≠X.env.locals:=λb o e=>zP1 (zN4 (zO4 e) I.ok.above);have h:∀b o,X.s₀.heap.get? b=some o->b∉X.ex->b∉ch:=λb o e a hb=>by
  rcases(f b hb).1 with z|z
  ·exact a z
  ·exact absurd (zN4 (zO4 e) z) (zT2 _)
 have cellK:∀x c,X.env.cells.lookup x=some c->∀v,s.heap.IsCell c v->h'.IsCell c v:=λx c e v A=>by
  obtain⟨o,j,hd⟩:=A;have g:c∉ch:=λz=>(f c z).2.2.1 x c e rfl;by_cases C:c∈X.fs
  ·obtain⟨sl,q⟩:=slot c o (I.cne x c e) C g j (I.freeC x c e);exact⟨_,q,hd⟩
  ·exact⟨o,keep c o (I.cne x c e) C g j (I.freeC x c e),hd⟩
 refine⟨I.ok,I.os,hg,⟨λb o e n hb a=>?_,λb o e n hb a=>?_,λb o e n a=>?_,λb o e a=>?_,λb xs e=>tups b xs (I.base.tups b xs e),λb o xs e=>frzs b o xs (I.base.frzs b o xs e),λb ps e=>?_⟩,?_,λx c e=>?_,?_,λx c e=>?_,λp D=>?_,hok,I.len⟩
 ·exact keep b o (y b o e) hb (h b o e a) (I.base.keep b o e n hb a) (I.base.free b o e n a)
 ·obtain⟨sl,e1⟩:=I.base.slot b o e n hb a;obtain⟨B,t⟩:=slot b _ (y b o e) hb (h b o e a) e1 (I.base.free b o e n a);exact⟨B,t⟩
 ·obtain⟨o',e1⟩:=I.base.there b o e a;exact free b o' (h b o e a) e1 (I.base.free b o e n a)
 ·obtain⟨o',e1⟩:=I.base.there b o e a;exact there b o' (h b o e a) e1
 ·obtain⟨m1,e1⟩:=I.base.tbls b ps e;obtain⟨m2,t⟩:=tbls b _ e1;exact⟨m1++m2,by rw[t,Array.append_assoc]⟩
 ·obtain⟨m,hn,F⟩:=I.loc;refine⟨m,ns m hn,λi x v e1 t E=>?_⟩;obtain⟨u,r,l⟩:=F i x v e1 t E;refine⟨u,r,?_⟩;rcases l with l|⟨k,c,e,z⟩
  ·exact .inl l
  ·exact .inr ⟨k,c,e,cellK x c e _ z⟩
 ·obtain⟨v,z⟩:=I.cell x c e;exact⟨v,cellK x c e v z⟩
 ·obtain⟨m,⟨o,_,_,j,_⟩,_⟩:=I.loc;exact free _ o (λz=>(f _ z).2.1 rfl) j I.free
 ·obtain⟨v,o,j,hd⟩:=I.cell x c e;exact free c o (λz=>(f c z).2.2.1 x c e rfl) j (I.freeC x c e)
 ·obtain⟨e,n,ne,nf,d⟩:=I.pin p D;have g:p.1∉ch:=λz=>(f p.1 z).2.2.2 p D rfl;exact⟨keep p.1 p.2 ne nf g e n,free p.1 p.2 g e n,ne,nf,d⟩
theorem Inv.un {t':Nat}(I:Inv X pins σ H s)(u:Un X.fs [] H H' s.heap h')(hok:HOk X.prog X.w H' h'):Inv X pins σ H' {s with heap:=h',toks:=t'}:=by
 obtain⟨m,⟨o,es,ep,d,r⟩,_⟩:=id I.loc;obtain⟨sl,f⟩:=u.any d I.free (by simp);exact I.step (g':=s.gens) (d':=s.drawn) (ch:=[]) (λ_ z=>nomatch z) (λb o _ hb _ e n=>u.keep b o e n hb (by simp)) (λb o _ hb _ e n=>u.slot b o e n hb (by simp)) (λb o _ e n=>u.free b o e n (by simp)) (λb o _ e=>u.there b o e (by simp)) u.tups u.frzs u.tbls (λh hm=>by
  obtain⟨o',es',c,a,g⟩:=hm;rw[d]at a;cases a;exact⟨_,es',c,f,g⟩) hok I.bare
theorem Inv.call {g':Array GenState}{t':Nat}{d':Drawn}{ch:List Addr}(I:Inv X pins σ H s)(u:Un (frs X.stack) ch H H' s.heap h')(hok:HOk X.prog X.w H' h')(hg:AllBare g')
  (f:∀b∈ch,(b∈X.ex\/X.s₀.heap.objs.size<=b)/\b≠X.env.locals/\(∀x c,X.env.cells.lookup x=some c->c≠b)/\∀p∈X.pn++pins,p.1≠b):
  Inv X pins σ H' {s with heap:=h',gens:=g',drawn:=d',toks:=t'}:=by
 obtain⟨m,⟨o,es,ep,i,r⟩,_⟩:=id I.loc;obtain⟨sl,g⟩:=u.any i I.free λz=>(f _ z).2.1 rfl;exact I.step (ch:=ch) f (λb o g hb a e n=>u.keep b o e n (λz=>(zN6.mp (I.stkSub b z)).elim g hb) a) (λb o _ _ a e n=>u.any e n a) (λb o a e n=>u.free b o e n a) (λb o a e=>u.there b o e a) u.tups u.frzs u.tbls (λk hm=>by
  obtain⟨o',es',h,d,j⟩:=hm;rw[i]at d;cases d;exact⟨_,es',h,g,j⟩) hok hg
theorem Inv.turned {t':Nat}{it:Addr}(I:Inv X pins σ H s)(k:∀b o,b≠it->s.heap.get? b=some o->h'.get? b=some o)(hn:H it=none)(f:it≠X.env.locals)
  (i:it∈X.ex\/X.s₀.heap.objs.size<=it) (j:∀x c,X.env.cells.lookup x=some c->c≠it) (g:∀p∈X.pn++pins,p.1≠it):Inv X pins σ H {s with heap:=h',toks:=t'}:=by
 have d:∀b u,H b=some u->b≠it:=λb u e z=>by rw[z,hn]at e;cases e
 refine I.step (g':=s.gens) (d':=s.drawn) (ch:=[it]) (λb hb=>?_) (λb o _ _ a e _=>k b o (λz=>a (by simp[z])) e) (λb o _ _ a e _=>⟨o.slots,k b o (λz=>a (by simp[z])) e⟩) (λ_ _ _ _ n=>n)
  (λb o a e=>⟨o,k b o (λz=>a (by simp[z])) e⟩) (λ_ _ e=>e) (λ_ _ _ e=>e) (λb ps e=>⟨#[],by rw[e];simp⟩) (λm hm=>?_) (λb u e=>?_) I.bare
 ·have e:b=it:=by simpa using hb
  subst e;exact⟨i,f,j,g⟩
 ·obtain⟨o,es,ep,h,r⟩:=hm;exact⟨o,es,ep,k _ o (zS3 f) h,r⟩
 ·refine(I.hok b u e).stay (λc v a q=>k c v ?_ q) (λ_ q=>q) λ_ _ q=>q;rcases a with z|z
  ·rw[z];exact d b u e
  ·exact d c _ z
theorem Inv.tok (I:Inv X pins σ H s)(t:Nat):Inv X pins σ H {s with toks:=t}:=I.un (h':=s.heap) (t':=t) Un.refl I.hok
theorem Inv.kept {t':Nat}(I:Inv X pins σ H s)(k:∀b u,s.heap.get? b=some u->h'.get? b=some u):Inv X pins σ H {s with heap:=h',toks:=t'}:=I.un (Un.kept k) (I.hok.kept k)
theorem Inv.laid {a:Addr}{o:HO}{t':Nat}(I:Inv X pins σ H s)(k:∀b u,s.heap.get? b=some u->h'.get? b=some u)(c:s.heap.objs.size<=a)(new:zT X.prog X.w (upd H a o) h' a o):
  Inv X pins σ (upd H a o) {s with heap:=h',toks:=t'}:=I.un (Un.laid k c (I.hok.fresh c)) (I.hok.laid k c new)
theorem Inv.write {x e:Addr}{o:HO}{t':Nat}(I:Inv X pins σ H s)(c:Mut (H x))(he:e=x\/H e=some (.own x))(k:∀b u,b≠e->s.heap.get? b=some u->h'.get? b=some u)(a:∃u,h'.get? e=some u)
  (new:zT X.prog X.w (upd H x o) h' x o):Inv X pins σ (upd H x o) {s with heap:=h',toks:=t'}:=I.un (Un.write c he k a) (I.hok.write c he k a new)
theorem Inv.pins_of {a:List (Addr×Obj)}(I:Inv X pins σ H s)(h:∀p∈a,s.heap.get? p.1=some p.2/\H p.1=none/\p.1≠X.env.locals/\p.1∉X.fs/\∀v,p.2.data≠.cell v):Inv X a σ H s:=
 ⟨I.ok,I.os,I.bare,I.base,I.loc,I.cell,I.free,I.freeC,λp b=>(zP4.mp b).elim (λz=>I.pin p (zP6 _ z)) (h p),I.hok,I.len⟩
theorem oM {N:List Str}(d:N.Nodup){i j:Nat}{x:Str}(a:N[i]?=some x)(b:N[j]?=some x):i=j:=by
 obtain⟨e,e1⟩:=zN8.mp a;obtain⟨f,c⟩:=zN8.mp b;exact(List.getElem_inj d).mp (e1.trans c.symm)
theorem qH {M:Model}{A:Around}{E:Value->Shared->Prop}{i:Nat}{x:Str}{v:V}{u:Value}{Q:Unit->Shared->Prop}(I:Inv X pins σ H s)(hN:X.N.Nodup)(hi:X.N[i]?=some x)(l:Loc X.env.scope x)(r:RelV v u)
  (h:∀s',Inv X pins (σ.set i (some v)) H s'->(∃a,Heap.SameBut a s.heap s'.heap/\(a=X.env.locals\/X.env.cells.lookup x=some a))->Q () s') (hf:X.fn x=true\/X.env.scope.names.lookup x=some .local:=by first|exact .inl rfl|exact .inr rfl|assumption):wpAny M A (storeName X.env x u) Q E s:=by
 obtain⟨m,hn,hl⟩:=id I.loc;have K:(X.env.scope.kind == .class||(X.env.scope.kind == .module&&X.env.locals != X.env.globals))=false:=by rw[I.ok.kind];rfl
 have C:i<σ.length:=by rw[I.len];exact(zN8.mp hi).1
 have cne:=I.cne;have tracked:∀{a:Addr} {h':Heap},(∃o,s.heap.get? a=some o/\H a=none)->Heap.SameBut a s.heap h'->HOk X.prog X.w H h':=λ{a h'} ha f b ob e=>by
  obtain⟨_,_,t⟩:=ha;refine(I.hok b ob e).stay (λc P g q=>(f.2 c ?_).trans q) (λ_ q=>q) λ_ _ q=>q;rintro rfl;rcases g with rfl|g
  ·rw[t]at e;cases e
  ·rw[t]at g;cases g
 rcases l with hk|hk
 ·refine wpAny_storeName_local hk hn (λh' Y f=>?_) K;obtain⟨oL,_,_,T,_⟩:=id hn;refine h _ ⟨I.ok,I.os,I.bare,⟨λb o e n hb l=>?_,λb o e n hb l=>?_,I.base.free,λb o e l=>?_,I.base.tups,I.base.frzs,I.base.tbls⟩,⟨_,Y,λj y Z e1 B S=>?_⟩,λy c e=>?_,I.free,I.freeC,λp U=>?_,tracked ⟨oL,T,I.free⟩ f,by simpa using I.len⟩ ⟨_,f,.inl rfl⟩
  ·exact(f.2 b (zP1 (zN4 (zO4 e) I.ok.above))).trans (I.base.keep b o e n hb l)
  ·obtain⟨sl,e1⟩:=I.base.slot b o e n hb l;exact⟨sl,(f.2 b (zP1 (zN4 (zO4 e) I.ok.above))).trans e1⟩
  ·obtain⟨o',e1⟩:=I.base.there b o e l;exact⟨o',(f.2 b (zP1 (zN4 (zO4 e) I.ok.above))).trans e1⟩
  ·by_cases F:j=i
   ·subst F;rw[hi]at e1;cases e1;rw[zW1 C]at B;cases B;exact⟨u,r,.inl ⟨hk,by simp⟩⟩
   ·rw[zT6 (zS3 F)]at B;obtain⟨R,W,q⟩:=hl j y Z e1 B S;refine⟨R,W,?_⟩;rcases q with⟨k,e⟩|⟨k,c,e,z⟩
    ·refine .inl ⟨k,?_⟩;have:y≠x:=λe=>F (oM hN e1 (e▸hi));simp[this,e]
    ·exact .inr ⟨k,c,e,z.sameBut f (cne y c e)⟩
  ·obtain⟨P,z⟩:=I.cell y c e;exact⟨P,z.sameBut f (cne y c e)⟩
  ·obtain⟨e,n,ne,nf,d⟩:=I.pin p U;exact⟨(f.2 p.1 ne).trans e,n,ne,nf,d⟩
 ·have D:X.fn x=true:=by
   rcases hf with z|z
   ·exact z
   ·rw[z]at hk;cases hk
  obtain⟨c,g⟩:=I.ok.has x (.inl hk);obtain⟨P,z⟩:=I.cell x c g;refine wpAny_storeName_cell I.ok.kind hk g z (λh' J f=>?_);obtain⟨oc,L,G⟩:=id z;refine h {s with heap:=h'} ⟨I.ok,I.os,I.bare,⟨λb o e n hb l=>?_,λb o e n hb l=>?_,I.base.free,λb o e l=>?_,I.base.tups,I.base.frzs,I.base.tbls⟩,⟨m,hn.sameBut f (zS3 (cne x c g)),λj y Z e1 B S=>?_⟩,λy c' e=>?_,I.free,I.freeC,λp U=>?_,tracked ⟨oc,L,I.freeC x c g⟩ f,by simpa using I.len⟩ ⟨c,f,.inr g⟩
  ·exact(f.2 b (zP1 (zN4 (zO4 e) (I.ok.cab x c D g)))).trans (I.base.keep b o e n hb l)
  ·obtain⟨sl,e1⟩:=I.base.slot b o e n hb l;exact⟨sl,(f.2 b (zP1 (zN4 (zO4 e) (I.ok.cab x c D g)))).trans e1⟩
  ·obtain⟨o',e1⟩:=I.base.there b o e l;exact⟨o',(f.2 b (zP1 (zN4 (zO4 e) (I.ok.cab x c D g)))).trans e1⟩
  ·by_cases F:j=i
   ·subst F;rw[hi]at e1;cases e1;rw[zW1 C]at B;cases B;exact⟨u,r,.inr ⟨.inl hk,c,g,J⟩⟩
   ·rw[zT6 (zS3 F)]at B;obtain⟨R,W,q⟩:=hl j y Z e1 B S;refine⟨R,W,?_⟩;rcases q with q|⟨k,c',e,z'⟩
    ·exact .inl q
    ·refine .inr ⟨k,c',e,z'.sameBut f ?_⟩;rintro rfl;exact F (oM hN e1 (I.ok.inj _ _ _ e g▸hi))
  ·by_cases O:c'=c
   ·subst O;exact⟨_,J⟩
   ·obtain⟨w2,z2⟩:=I.cell y c' e;exact⟨w2,z2.sameBut f O⟩
  ·obtain⟨e,n,ne,nf,d⟩:=I.pin p U;refine⟨(f.2 p.1 ?_).trans e,n,ne,nf,d⟩;intro q;rw[q,L]at e;have q':oc=p.2:=zR0 e;exact d P (by rw[<-q'];exact G)
theorem nG {M:Model}{A:Around}{E:Value->Shared->Prop}{i:Nat}{x:Str}{v:V}{u:Value}{Q:Unit->Shared->Prop}(I:Inv X pins σ H s)(b:X.N.Nodup)(hi:X.N[i]?=some x)(c:Loc X.env.scope x)(r:RelV v u)
  (h:∀s',Inv X pins (σ.set i (some v)) H s'->Q () s') (hf:X.fn x=true\/X.env.scope.names.lookup x=some .local:=by first|exact .inl rfl|exact .inr rfl|assumption):wpAny M A (storeName X.env x u) Q E s:=
 qH I b hi c r (λs' a _=>h s' a) hf
theorem Inv.call' {s':Shared}{ch:List Addr}(I:Inv X pins σ H s)(d:s'.os=s.os)(u:Un (frs X.stack) ch H H' s.heap s'.heap)(hok:HOk X.prog X.w H' s'.heap)(hg:AllBare s'.gens)
  (a:∀b∈ch,(b∈X.ex\/X.s₀.heap.objs.size<=b)/\b≠X.env.locals/\(∀x c,X.env.cells.lookup x=some c->c≠b)/\∀p∈X.pn++pins,p.1≠b):Inv X pins σ H' s':=by
 obtain⟨h',g',d',t',o'⟩:=s';have e:o'=s.os:=d;subst e;exact I.call (g':=g') (t':=t') (d':=d') u hok hg a
end
abbrev XK :=Value->Option Addr->Hp->Prop
abbrev St :=List (Option V)
abbrev VK :=V->Hp->Prop
abbrev TE :=St->Hp->VK->Prop
abbrev TT :=St->Hp->(Bool->Hp->Prop)->Prop
abbrev TA :=St->Hp->(List V->Hp->Prop)->Prop
structure Ends where
 nx:St->Hp->Prop
 rt:VK
 bk:St->Hp->Prop:=λ_ _=>False
 ct:St->Hp->Prop:=λ_ _=>False
abbrev TS :=Ends->St->Hp->Prop
def EP (X:Cx)(pins:List (Addr×Obj))(σ:St)(Q:VK)(u:Value)(s':Shared):Prop:=∃v H',Inv X pins σ H' s'/\RelV v u/\Q v H'
def TP (X:Cx)(pins:List (Addr×Obj))(σ:St)(Q:Bool->Hp->Prop)(b:Bool)(s':Shared):Prop:=∃H',Inv X pins σ H' s'/\Q b H'
def AP (X:Cx)(pins:List (Addr×Obj))(σ:St)(Q:List V->Hp->Prop)(us:List Value)(s':Shared):Prop:=∃vs H',Inv X pins σ H' s'/\Vals vs us/\Q vs H'
def SP (X:Cx)(pins:List (Addr×Obj))(D:Ends)(f:Flow)(s':Shared):Prop:=
 match f with
 |.next=>∃a H',Inv X pins a H' s'/\D.nx a H'
 |.brk=>∃a H',Inv X pins a H' s'/\D.bk a H'
 |.cont=>∃a H',Inv X pins a H' s'/\D.ct a H'
 |.ret u=>∃v a H',Inv X pins a H' s'/\RelV v u/\D.rt v H'
def PE (X:Cx)(e:Expr)(t:TE):Prop:=
 ∀(pins:List (Addr×Obj)) (s:Shared) (σ:St) (H:Hp) (Q:VK),Inv X pins σ H s->t σ H Q->wpAny (model X.prog X.w) X.A (eval e X.env) (EP X pins σ Q) X.xe s
def PT (X:Cx)(e:Expr)(t:TT):Prop:=
 ∀(pins:List (Addr×Obj)) (s:Shared) (σ:St) (H:Hp) (Q:Bool->Hp->Prop),Inv X pins σ H s->t σ H Q->wpAny (model X.prog X.w) X.A (isTrue e X.env (eval e X.env)) (TP X pins σ Q) X.xe s
def PW (X:Cx)(e:Expr)(t:TT):Prop:=
 ∀(whole:Sem Value) (pins:List (Addr×Obj)) (s:Shared) (σ:St) (H:Hp) (Q:Bool->Hp->Prop),Inv X pins σ H s->t σ H Q->wpAny (model X.prog X.w) X.A (isTrue e X.env whole) (TP X pins σ Q) X.xe s
theorem PW.pt {X:Cx}{e:Expr}{t:TT}(h:PW X e t):PT X e t:=h _
def PA (X:Cx)(es:List Expr)(t:TA):Prop:=
 ∀(pos:Pos) (pins:List (Addr×Obj)) (s:Shared) (σ:St) (H:Hp) (Q:List V->Hp->Prop),Inv X pins σ H s->t σ H Q->wpAny (model X.prog X.w) X.A (spliced (backTo pos (starEach es X.env))) (AP X pins σ Q) X.xe s
def PS (X:Cx)(st:Stmt)(t:TS):Prop:=
 ∀(pins:List (Addr×Obj)) (s:Shared) (σ:St) (H:Hp) (D:Ends),Inv X pins σ H s->t D σ H->wpAny (model X.prog X.w) X.A (exec st X.env) (SP X pins D) X.xe s
def PSs (X:Cx)(st:List Stmt)(t:TS):Prop:=
 ∀(pins:List (Addr×Obj)) (s:Shared) (σ:St) (H:Hp) (D:Ends),Inv X pins σ H s->t D σ H->wpAny (model X.prog X.w) X.A (execs st X.env) (SP X pins D) X.xe s
theorem thn {α:Type}{t:Sem α}{Q Q':α->Shared->Prop}{M:Model}{A:Around}{E:Value->Shared->Prop}{s:Shared}(h:wpAny M A t Q E s)(b:∀a s,Q a s->Q' a s):wpAny M A t Q' E s:=zS9 h b λ_ _ x=>x
section
variable {X:Cx}
def cb (i:Nat):TE:=λσ H Q=>∃v,σ[i]?=some (some v)/\Q v H
def tC (v:V):TE:=λ_ H Q=>Q v H
theorem yw {i:Nat}{x:Str}{pos:Pos}(j:X.N[i]?=some x)(f:Vis X.env.scope x)(hd:(x == ("__debug__":Str))=false:=by decide)(b:(x == ("__classdict__":Str))=false:=by decide):PE X (.Name x pos) (cb i):=by
 intro pins s σ H Q I h;obtain⟨v,e,h⟩:=h;obtain⟨m,hn,g⟩:=I.loc;obtain⟨u,r,l⟩:=g i x v j e f;have fin:EP X pins σ Q u s:=⟨v,H,I,r,h⟩;rcases l with⟨hk,hm⟩|⟨hk,c,d,a⟩
 ·exact wpAny_Name (wpAny_loadName_local I.ok.kind hk hn hm fin) hd
 ·rcases hk with hk|hk
  ·exact wpAny_Name (wpAny_loadName_cell I.ok.kind hk d a fin) hd
  ·exact wpAny_Name (wpAny_loadName_free I.ok.kind hk d a fin b) hd
theorem yc {i j pos}:PE X (.Constant (.int i) j pos) (tC (.int i)):=λ_ _ _ H _ I h=>wpAny_Constant_int ⟨.int i,H,I.tok _,⟨_,rfl⟩,h⟩
theorem zI6 {b j pos}:PE X (.Constant (.bool b) j pos) (tC (.bl b)):=λ_ _ _ H _ I h=>Constant_bool ⟨.bl b,H,I,rfl,h⟩
theorem fA {j pos}:PE X (.Constant .none j pos) (tC .non):=λ_ _ _ H _ I h=>Constant_none ⟨.non,H,I,rfl,h⟩
theorem zy4 {x j pos}:PE X (.Constant (.str x) j pos) (tC (.str x)):=λ_ _ _ H _ I h=>Calls.Constant_str ⟨.str x,H,I.tok _,⟨_,rfl⟩,h⟩
def Gl (X:Cx)(x:Str):Prop:=X.env.kindOf x=some .globalImplicit
theorem tY {E:Value->Shared->Prop}{pins:List (Addr×Obj)}{s:Shared}{σ:St}{H:Hp}{x:Str}{u:Value}{pos:Pos}{Q:Value->Shared->Prop}(I:Inv X pins σ H s)(hg:Gl X x)(hm:X.mg x=some u)(h:Q u s)
  (hd:(x == ("__debug__":Str))=false:=by decide):wpAny (model X.prog X.w) X.A (eval (.Name x pos) X.env) Q E s:=
 Calls.Name_function_global I.ok.kind hg (Calls.loadGlobal_global (by rw[I.ok.glob];exact I.mod.glob.keeps I.bk) hm h) hd
theorem xD {E:Value->Shared->Prop}{pins:List (Addr×Obj)}{s:Shared}{σ:St}{H:Hp}{x:Str}{u:Value}{pos:Pos}{Q:Value->Shared->Prop}(I:Inv X pins σ H s)(hg:Gl X x)(hm:X.mg x=none)(a:bootBuiltins x=some u)(h:Q u s)
  (hn:x≠"__name__":=by decide) (hd:(x == ("__debug__":Str))=false:=by decide):wpAny (model X.prog X.w) X.A (eval (.Name x pos) X.env) Q E s:=by
 obtain⟨mb,b,c⟩:=I.mod.blt;exact Calls.Name_function_global I.ok.kind hg (Calls.loadGlobal_builtin (by rw[I.ok.glob];exact I.mod.glob.keeps I.bk) hm (by rw[I.ok.blt];exact b.keeps I.bk) ((c x hn).trans a) h) hd
theorem aT {x:Str}{v:V}{u:Value}{pos:Pos}(hg:Gl X x)(hm:X.mg x=some u)(r:RelV v u)(hd:(x == ("__debug__":Str))=false:=by decide):PE X (.Name x pos) (tC v):=
 λ_ _ _ H _ I h=>tY I hg hm ⟨v,H,I,r,h⟩ hd
theorem zb6 {x:Str}{v:V}{u:Value}{pos:Pos}(hg:Gl X x)(hm:X.mg x=none)(a:bootBuiltins x=some u)(r:RelV v u)(hn:x≠"__name__":=by decide)(hd:(x == ("__debug__":Str))=false:=by decide):PE X (.Name x pos) (tC v):=
 λ_ _ _ H _ I h=>xD I hg hm a ⟨v,H,I,r,h⟩ hn hd
variable {a b:Expr}{ta tb:TE}{pos:Pos}
def tB (t:TE):TT:=λσ H Q=>t σ H λx H1=>∃c,x=.bl c/\Q c H1
theorem zo9 {e:Expr}{t:TE}(h:PE X e t)(he:∀whole,isTrue e X.env whole=(do let v <-whole;standAt e.pos;holding [v] (truthy v)):=by intro _;rfl):PT X e (tB t):=by
 intro pins s σ H Q I hw;refine isTrue_plain (thn (h pins s σ H _ I hw) λv s1 c=>?_) (he _);obtain⟨x,H1,f,g,i⟩:=c;obtain⟨d,rfl,q⟩:=i;cases g;exact zW2 ⟨H1,f,q⟩
variable {tA tB':TT}{rest:List Expr}
def zM3 (t u:TT):TT:=λσ H Q=>t σ H λc H1=>if c=true then u σ H1 Q else Q false H1
def tOr (t u:TT):TT:=λσ H Q=>t σ H λc H1=>if c=true then Q true H1 else u σ H1 Q
def zK6 (t:TT):TT:=λσ H Q=>t σ H λc H1=>Q (!c) H1
theorem zb0 (ha:PT X a tA):PW X (.BoolOp .And [a] pos) tA:=by
 intro d pins s σ H Q I h;refine isTrue_and (thn (ha pins s σ H Q I h) λc s1 e=>?_);cases c with
 |true=>exact isTrue_and_nil e
 |false=>exact e
theorem zx0 (ha:PT X a tA):PW X (.BoolOp .Or [a] pos) tA:=by
 intro d pins s σ H Q I h;refine isTrue_or (thn (ha pins s σ H Q I h) λc s1 e=>?_);cases c with
 |false=>exact isTrue_or_nil e
 |true=>exact e
theorem zw4 (ha:PT X a tA)(hb:PW X (.BoolOp .And (b::rest) pos) tB'):PW X (.BoolOp .And (a::b::rest) pos) (zM3 tA tB'):=by
 intro g pins s σ H Q I h;refine isTrue_and (thn (ha pins s σ H _ I h) λc s1 d=>?_);obtain⟨H1,e,f⟩:=d;cases c with
 |true=>exact hb g pins s1 σ H1 Q e f
 |false=>exact⟨H1,e,f⟩
theorem zG8 (ha:PT X a tA)(hb:PW X (.BoolOp .Or (b::rest) pos) tB'):PW X (.BoolOp .Or (a::b::rest) pos) (tOr tA tB'):=by
 intro g pins s σ H Q I h;refine isTrue_or (thn (ha pins s σ H _ I h) λc s1 d=>?_);obtain⟨H1,e,f⟩:=d;cases c with
 |true=>exact⟨H1,e,f⟩
 |false=>exact hb g pins s1 σ H1 Q e f
theorem zv5 (ha:PT X a tA):PT X (.UnaryOp .Not a pos) (zK6 tA):=by
 intro pins s σ H Q I h;exact isTrue_not (ha pins s σ H (λc H1=>Q (!c) H1) I h)
def zE7 (ta tb:TE):TE:=λσ H Q=>ta σ H λx H1=>∃c,x=.bl c/\if c=true then tb σ H1 Q else Q (.bl false) H1
def zL3 (ta tb:TE):TE:=λσ H Q=>ta σ H λx H1=>∃c,x=.bl c/\if c=true then Q (.bl true) H1 else tb σ H1 Q
def zz0 (ta:TE):TE:=λσ H Q=>ta σ H λx H1=>∃c,x=.bl c/\Q (.bl (!c)) H1
theorem zs0 {op}{t:TE}(h:PE X a t):PE X (.BoolOp op [a] pos) t:=λpins s σ H Q I hw=>BoolOp_one (h pins s σ H Q I hw)
theorem zp4 (ha:PE X a ta)(hb:PE X (.BoolOp .And (b::rest) pos) tb):PE X (.BoolOp .And (a::b::rest) pos) (zE7 ta tb):=by
 intro pins s σ H Q I h;refine BoolOp_and (thn (ha pins s σ H _ I h) λv s1 d=>?_);obtain⟨x,H1,f,g,e⟩:=d;obtain⟨c,rfl,e⟩:=e;cases g;refine zW2 ?_;cases c with
 |true=>exact hb pins s1 σ H1 Q f e
 |false=>exact⟨.bl false,H1,f,rfl,e⟩
theorem zz1 (ha:PE X a ta)(hb:PE X (.BoolOp .Or (b::rest) pos) tb):PE X (.BoolOp .Or (a::b::rest) pos) (zL3 ta tb):=by
 intro pins s σ H Q I h;refine BoolOp_or (thn (ha pins s σ H _ I h) λv s1 d=>?_);obtain⟨x,H1,f,g,e⟩:=d;obtain⟨c,rfl,e⟩:=e;cases g;refine zW2 ?_;cases c with
 |false=>exact hb pins s1 σ H1 Q f e
 |true=>exact⟨.bl true,H1,f,rfl,e⟩
theorem zt8 (ha:PE X a ta):PE X (.UnaryOp .Not a pos) (zz0 ta):=by
 intro pins s σ H Q I h;refine UnaryOp_ (thn (ha pins s σ H _ I h) λv s1 d=>?_);obtain⟨x,H1,g,f,e⟩:=d;obtain⟨c,rfl,e⟩:=e;cases f;exact not_of (zW2 ⟨.bl (!c),H1,g,rfl,e⟩)
def tIf (t:TT)(ta tb:TE):TE:=λσ H Q=>t σ H λc H1=>if c=true then ta σ H1 Q else tb σ H1 Q
theorem dI {c:Expr}(i:PT X c tA)(ha:PE X a ta)(hb:PE X b tb):PE X (.IfExp c a b pos) (tIf tA ta tb):=by
 intro pins s σ H Q I h;refine wpAny_IfExp (thn (i pins s σ H _ I h) λd s1 e=>?_);obtain⟨H1,f,g⟩:=e;cases d with
 |true=>exact ha pins s1 σ H1 Q f g
 |false=>exact hb pins s1 σ H1 Q f g
end
def SqL (K:PySem.W.Frag)(H:Hp)(a:Addr)(xs:List V):Prop:=
 Rd H a (.lst xs)\/
  ∃(o:Obj) (its:Array Value) (n:Nat),K.lookup a=some o/\o.cls=.type "list"/\o.dict=none/\o.data=.seq its n/\its.size<=sizeLine/\Vals xs its.toList
def SqT (K:PySem.W.Frag)(H:Hp)(a:Addr)(xs:List V):Prop:=
 Rd H a (.tup xs)\/
  ∃(o:Obj) (its:Array Value) (n:Nat),K.lookup a=some o/\o.cls=.type "tuple"/\o.data=.seq its n/\its.size<=sizeLine/\Vals xs its.toList
def zJ9 :Value->Option V
 |.none=>some .non
 |.bool b=>some (.bl b)
 |.int i _=>some (.int i)
 |.str x _=>some (.str x)
 |.bytes b _=>some (.byt b)
 |.float b _=>some (.flt b)
 |.ref a=>some (.ref a)
 |.type n=>some (.ty n)
 |_=>none
theorem RelV.abs {x:V}{u:Value}(r:RelV x u):zJ9 u=some x:=by
 cases x with
 |non=>cases r;rfl
 |bl _=>cases r;rfl
 |int _=>obtain⟨t,rfl⟩:=r;rfl
 |str _=>obtain⟨t,rfl⟩:=r;rfl
 |byt _=>obtain⟨t,rfl⟩:=r;rfl
 |flt _=>obtain⟨t,rfl⟩:=r;rfl
 |ref _=>cases r;rfl
 |ty _=>cases r;rfl
theorem RelV.inj {x y:V}{u:Value}(r:RelV x u)(q:RelV y u):x=y:=zR0 (r.abs.symm.trans q.abs)
theorem Vals.inj {xs ys:List V}{us:List Value}(h:Vals xs us)(k:Vals ys us):xs=ys:=by
 induction h generalizing ys with
 |nil=>cases k;rfl
 |cons r _ a=>cases k with
  |cons b t'=>rw[r.inj b,a t']
section
variable {X:Cx}{pins:List (Addr×Obj)}{σ:St}{H:Hp}{s:Shared}{a:Addr}{xs ys:List V}
theorem SqL.of {K:PySem.W.Frag}(h:H a=some (.lst xs)):SqL K H a xs:=.inl (.inl h)
theorem SqT.of {K:PySem.W.Frag}(h:H a=some (.tup xs)):SqT K H a xs:=.inl (.inl h)
theorem Inv.list (I:Inv X pins σ H s)(h:SqL X.K H a xs):∃its:List Value,Vals xs its/\PlainL s.heap a its.toArray/\xs.length<=sizeLine:=by
 rcases h with h|⟨o,its,n,hk,c,hd,b,hz,r⟩
 ·obtain⟨z,its,n,r,e⟩:=h.ok I.hok;exact⟨its,r,⟨_,n,e,rfl,rfl,rfl⟩,z⟩
 ·refine⟨its.toList,r,⟨o,n,I.kIn a o hk,c,hd,by simpa using b⟩,?_⟩;have e:=r.length;simp only[zU5]at e;exact zO0 (zO9 e) hz
theorem Inv.tuple (I:Inv X pins σ H s)(h:SqT X.K H a xs):∃its:List Value,Vals xs its/\IsTup s.heap a its.toArray/\xs.length<=sizeLine:=by
 rcases h with h|⟨o,its,n,hk,c,b,hz,r⟩
 ·obtain⟨z,its,r,p⟩:=h.ok I.hok;exact⟨its,r,p,z⟩
 ·refine⟨its.toList,r,⟨o,I.kIn a o hk,c,n,by simpa using b⟩,?_⟩;have e:=r.length;simp only[zU5]at e;exact zO0 (zO9 e) hz
theorem Inv.list_inj (I:Inv X pins σ H s)(h:SqL X.K H a xs)(h':SqL X.K H a ys):xs=ys:=by
 obtain⟨its,r,⟨o,n,e,_,_,d⟩,_⟩:=I.list h;obtain⟨its',f,⟨o',g,b,_,_,d'⟩,_⟩:=I.list h';rw[e]at b;cases b;rw[d]at d';injection d' with c _;have:its=its':=by simpa using congrArg Array.toList c
 subst this;exact r.inj f
theorem Inv.tuple_inj (I:Inv X pins σ H s)(h:SqT X.K H a xs)(h':SqT X.K H a ys):xs=ys:=by
 obtain⟨its,r,⟨o,e,_,n,d⟩,_⟩:=I.tuple h;obtain⟨its',f,⟨o',b,_,g,d'⟩,_⟩:=I.tuple h';rw[e]at b;cases b;rw[d]at d';injection d' with c _;have:its=its':=by simpa using congrArg Array.toList c
 subst this;exact r.inj f
end
abbrev Cx.wish (X:Cx)(E:Value->Shared->Prop):Cx:={X with xe:=E}
abbrev Cx.nox (X:Cx):Cx:=X.wish λ_ _=>False
theorem Cx.Ok.wish {X:Cx}(ok:X.Ok)(E:Value->Shared->Prop):(X.wish E).Ok:=
 ⟨ok.mod,ok.kind,ok.glob,ok.blt,ok.above,ok.inj,ok.has,ok.cab,ok.hd,ok.frames,ok.stk,ok.exf,ok.bs,ok.bsz,ok.noex,ok.exfs,ok.funs,ok.frf⟩
theorem Cx.Ok.unwish {X:Cx}{E:Value->Shared->Prop}(ok:(X.wish E).Ok):X.Ok:=
 ⟨ok.mod,ok.kind,ok.glob,ok.blt,ok.above,ok.inj,ok.has,ok.cab,ok.hd,ok.frames,ok.stk,ok.exf,ok.bs,ok.bsz,ok.noex,ok.exfs,ok.funs,ok.frf⟩
section
variable {X:Cx}{pins:List (Addr×Obj)}{σ:St}{H:Hp}{s:Shared}{E:Value->Shared->Prop}
theorem Inv.wish (I:Inv X pins σ H s)(E:Value->Shared->Prop):Inv (X.wish E) pins σ H s:=⟨I.ok.wish E,I.os,I.bare,I.base,I.loc,I.cell,I.free,I.freeC,I.pin,I.hok,I.len⟩
theorem Inv.unwish (I:Inv (X.wish E) pins σ H s):Inv X pins σ H s:=⟨I.ok.unwish,I.os,I.bare,I.base,I.loc,I.cell,I.free,I.freeC,I.pin,I.hok,I.len⟩
theorem SP.unwish {D:Ends}{f:Flow}{s':Shared}(h:SP (X.wish E) pins D f s'):SP X pins D f s':=by
 cases f with
 |next=>obtain⟨a,H',I,q⟩:=h;exact⟨a,H',I.unwish,q⟩
 |brk=>obtain⟨a,H',I,q⟩:=h;exact⟨a,H',I.unwish,q⟩
 |cont=>obtain⟨a,H',I,q⟩:=h;exact⟨a,H',I.unwish,q⟩
 |ret u=>obtain⟨v,a,H',I,r,q⟩:=h;exact⟨v,a,H',I.unwish,r,q⟩
theorem PSs.nox {st:List Stmt}{t:TS}(h:PSs X.nox st t):PSs X st t:=λpins s σ H D I hw=>
 zS9 (h pins s σ H D (I.wish _) hw) (λ_ _ q=>q.unwish) λ_ _ z=>False.elim z
end
section
variable {X:Cx}{st:Stmt}{rest:List Stmt}{t u:TS}{e:Expr}{te:TE}{pos:Pos}
def zG0 :TS:=λD σ H=>D.nx σ H
def zz3 (t u:TS):TS:=λD σ H=>t {D with nx:=u D} σ H
theorem kQ :PSs X [] zG0:=λ_ _ σ H _ I h=>z80 ⟨σ,H,I,h⟩
theorem zy (c:PS X st t)(d:PSs X rest u):PSs X (st::rest) (zz3 t u):=by
 intro pins s σ H D I h;refine wpAny_execs_cons (thn (c pins s σ H {D with nx:=u D} I h) λf s1 q=>?_);cases f with
 |next=>
  obtain⟨a,H',b,q⟩:=q;exact d pins s1 a H' D b q
 |ret v=>exact q
 |brk=>exact q
 |cont=>exact q
theorem tX (a:PS X st t):PSs X [st] t:=by
 intro pins s σ H D I h;refine wpAny_execs_cons (thn (a pins s σ H D I h) λf s1 q=>?_);cases f with
 |next=>exact z80 q
 |ret v=>exact q
 |brk=>exact q
 |cont=>exact q
theorem Inv.quiet {pins:List (Addr×Obj)}{σ:St}{H:Hp}{s:Shared}(I:Inv X pins σ H s):interactive X.env=false:=by simp[interactive,I.ok.kind]
def zF2 (te:TE):TS:=λD σ H=>te σ H λ_ H1=>D.nx σ H1
theorem tU (he:PE X e te)(b:swapsWith e none pos.line X.env=pure false:=by rfl):PS X (.Expr e pos) (zF2 te):=by
 intro pins s σ H D I h;exact wpAny_Expr_any (thn (he pins s σ H _ I h) λv s1 a=>by obtain⟨x,H1,d,f,c⟩:=a;exact⟨σ,H1,d,c⟩) I.quiet b
def zJ0 (te:TE):TS:=λD σ H=>te σ H D.rt
theorem sH (he:PE X e te):PS X (.Return (some e) pos) (zJ0 te):=by
 intro pins s σ H D I h;exact wpAny_Return_some (thn (he pins s σ H _ I h) λv s1 a=>by obtain⟨x,H1,d,b,c⟩:=a;exact⟨x,σ,H1,d,b,c⟩)
def zJ8 (c:TT)(t u:TS):TS:=λD σ H=>c σ H λb H1=>if b=true then t D σ H1 else u D σ H1
theorem zi9 {c:Expr}{a b:List Stmt}{i:TT}(k:PT X c i)(ha:PSs X a t)(hb:PSs X b u):PS X (.If c a b pos) (zJ8 i t u):=by
 intro pins s σ H D I h;refine wpAny_If (thn (k pins s σ H _ I h) λd s1 f=>?_);obtain⟨H1,g,j⟩:=f;cases d with
 |true=>exact ha pins s1 σ H1 D g j
 |false=>exact hb pins s1 σ H1 D g j
end
abbrev TG :=V->St->Hp->(St->Hp->Prop)->Prop
abbrev TGs :=List V->St->Hp->(St->Hp->Prop)->Prop
def PG (X:Cx)(target:Expr)(t:TG):Prop:=
 ∀(pins:List (Addr×Obj)) (s:Shared) (σ:St) (H:Hp) (v:V) (u:Value) (Q:St->Hp->Prop),Inv X pins σ H s->RelV v u->t v σ H Q->
  wpAny (model X.prog X.w) X.A (assign target X.env u) (λ_ s'=>∃a H',Inv X pins a H' s'/\Q a H') X.xe s
def PGs (X:Cx)(b:List Expr)(t:TGs):Prop:=
 ∀(pins:List (Addr×Obj)) (s:Shared) (σ:St) (H:Hp) (vs:List V) (us:List Value) (Q:St->Hp->Prop),Inv X pins σ H s->Vals vs us->t vs σ H Q->
  wpAny (model X.prog X.w) X.A (assignInOrder ((assignEach b X.env).map (·.2)) us) (λ_ s'=>∃a H',Inv X pins a H' s'/\Q a H') X.xe s
abbrev zw3 :=V->V->V->Hp->(Hp->Prop)->Prop
def zC9 (X:Cx)(t:zw3):Prop:=
 ∀(pins:List (Addr×Obj)) (s:Shared) (σ:St) (H:Hp) (o i v:V) (b a u:Value) (Q:Hp->Prop),Inv X pins σ H s->RelV o b->RelV i a->RelV v u->t o i v H Q->
  wpAny (model X.prog X.w) X.A (setItem b a u) (λ_ s'=>∃H',Inv X pins σ H' s'/\Q H') X.xe s
section
variable {X:Cx}{pos:Pos}
def rJ (i:Nat):TG:=λv σ H Q=>Q (σ.set i (some v)) H
theorem zD {i:Nat}{x:Str}(b:X.N.Nodup)(hi:X.N[i]?=some x)(c:Loc X.env.scope x)(hf:X.fn x=true\/X.env.scope.names.lookup x=some .local:=by first|exact .inl rfl|exact .inr rfl|assumption):PG X (.Name x pos) (rJ i):=by
 intro pins s σ H v u Q I r h;exact wpAny_assign_Name (nG I b hi c r (λs' a=>⟨_,H,a,h⟩) hf)
def aA :TGs:=λvs σ H Q=>vs=[]/\Q σ H
def qQ (t:TG)(u:TGs):TGs:=λvs σ H Q=>∃v r,vs=v::r/\t v σ H λa H'=>u r a H' Q
theorem wb :PGs X [] aA:=by
 intro pins s σ H vs us Q I r h;obtain⟨e,h⟩:=h;subst e;cases r;exact assignInOrder_nil ⟨σ,H,I,h⟩
theorem yb {e:Expr}{es:List Expr}{t:TG}{u:TGs}(g:PG X e t)(i:PGs X es u)
  (c:(assignEach (e::es) X.env).map (·.2)=assign e X.env::(assignEach es X.env).map (·.2):=by rfl):PGs X (e::es) (qQ t u):=by
 intro pins s σ H vs us Q I r h;obtain⟨v,k,e1,h⟩:=h;subst e1;cases r with
 |cons r d=>
  rw[c];refine assignInOrder_cons (thn (g pins s σ H _ _ _ I r h) λ_ s1 a=>?_);obtain⟨b,H1,f,j⟩:=a;exact i pins s1 b H1 _ _ Q f d j
def cR (K:PySem.W.Frag)(n:Nat)(t:TGs):TG:=λv σ H Q=>∃a xs,v=.ref a/\SqT K H a xs/\xs.length=n/\t xs σ H Q
theorem bj {es:List Expr}{k:Nat}{t:TGs}{n:Nat}(j:X.calm=true)(h:PGs X es t)
  (hn:(assignEach es X.env).length=n:=by rfl) (c:(assignEach es X.env).findIdx? (·.1)=none:=by rfl):PG X (.Tuple es k pos) (cR X.K n t):=by
 intro pins s σ H v u Q I r hw;obtain⟨a,xs,e1,hq,i,hw⟩:=hw;subst e1;cases r;obtain⟨its,d,f,hz⟩:=I.tuple hq;refine assign_Tuple_tuple (I.ok.hd j) f (by simp[hn,<-i,d.length]) c λh' l=>?_;have g:Inv X pins σ H {s with heap:=h'}:=I.kept (t':=s.toks) λb o e=>l b o (zP1 (zO4 e)) e;exact h pins _ σ H xs _ Q g (by simpa using d) hw
def za0 (to ti:TE)(t:zw3):TG:=λv σ H Q=>to σ H λo H1=>ti σ H1 λi a=>t o i v a λb=>Q σ b
theorem rj {o i:Expr}{to ti:TE}{t:zw3}(w:PE X o to)(hi:PE X i ti)(f:zC9 X t)
  (ha:∀v,assign (.Subscript o i pos) X.env v=(do
   let a <-holding [v] (eval o X.env)
   let b <-holding [v,a] (eval i X.env)
   standAt pos
   holding [v,a,b] (setItem a b v)
   release [v,a,b] []):=by intro _;rfl):PG X (.Subscript o i pos) (za0 to ti t):=by
 intro pins s σ H v u Q I r h;rw[ha];refine zM8 (zT0 (thn (w pins s σ H _ I h) λa s1 d=>?_));obtain⟨x,H1,j,l,m⟩:=d;refine zM8 (zT0 (thn (hi pins s1 σ H1 _ j m) λb s2 c=>?_));obtain⟨y,p,g,A,q⟩:=c;refine zM8 (wpAny_standAt (zM8 (zT0 (thn (f pins s2 σ p x y v a b u _ g l A r q) λ_ s3 e=>?_))));obtain⟨n,k,z⟩:=e;exact wpAny_release ⟨σ,n,k,z⟩
def zo8 (a:TE)(g:TG):TS:=λD σ H=>a σ H λx H1=>g x σ H1 D.nx
theorem su {tg e:Expr}{b:TE}{g:TG}(he:PE X e b)(hg:PG X tg g)(c:swapsWithSole [tg] e pos.line X.env=pure false:=by rfl)(hw:swappedStores [tg] e X.env=pure none:=by rfl)
  (f:(assignEach [tg] X.env).map (·.2)=[assign tg X.env]:=by rfl):PS X (.Assign [tg] e pos) (zo8 b g):=by
 intro pins s σ H D I h;refine wpAny_Assign_stores (thn (he pins s σ H _ I h) λv s1 a=>?_) c hw;obtain⟨x,H1,d,i,j⟩:=a;rw[f];exact thn (hg pins s1 σ H1 x v _ d i j) λ_ s2 q=>q
theorem ph {i:Nat}{x:Str}{e:Expr}{b:TE}{pos':Pos}(k:X.N.Nodup)(hi:X.N[i]?=some x)(l:Loc X.env.scope x)(he:PE X e b)(c:swapsWith e (some (.Name x pos')) pos.line X.env=pure false:=by rfl)(hf:X.fn x=true\/X.env.scope.names.lookup x=some .local:=by first|exact .inl rfl|exact .inr rfl|assumption):
  PS X (.Assign [.Name x pos'] e pos) (zo8 b (rJ i)):=by
 intro pins s σ H D I h;refine wpAny_Assign_Name (thn (he pins s σ H _ I h) λv s1 a=>?_) c;obtain⟨y,H1,f,g,j⟩:=a;exact nG f k hi l g (λs2 d=>⟨_,H1,d,j⟩) hf
end
section
variable {X:Cx}{pos:Pos}
def zt0 (c:TT)(e:TS):TS:=λD σ H=>∃W:Nat->St->Hp->Prop,(∃m,W m σ H)/\∀m σ H,W m σ H->
 c σ H λb H1=>if b=true then ∃N:St->Hp->Prop,(∀a H',N a H'->∃d,d<m/\W d a H')/\e {D with nx:=N,ct:=N,bk:=D.nx} σ H1 else D.nx σ H1
theorem cx {c:Expr}{body:List Stmt}{r:TT}{t:TS}(x:PassesOwn (model X.prog X.w) X.A X.env X.xe)(B:PT X c r)(hb:PSs X body t):PS X (.While c body [] pos) (zt0 r t):=by
 intro pins s σ H D I h;obtain⟨W,⟨m0,C⟩,turn⟩:=h;refine wpAny_While (codeAny_whileLoop (λn s'=>∃i H',Inv X pins i H' s'/\W n i H') ?_ m0 ⟨σ,H,I,C⟩);rintro n s1 ⟨d,H1,z,E⟩;refine z09 x (thn (B pins s1 d H1 _ z (turn n d H1 E)) λb s2 e=>?_);obtain⟨y,q,j⟩:=e;cases b with
 |true=>
  obtain⟨N,u,j⟩:=j;rw[if_pos rfl];refine z09 x (thn (hb pins s2 d y _ q j) λf s3 k=>?_);cases f with
  |next=>
   obtain⟨a,g,m,l⟩:=k;obtain⟨p,hm,o⟩:=u a g l;exact⟨p,hm,a,g,m,o⟩
  |cont=>
   obtain⟨a,g,m,l⟩:=k;obtain⟨p,hm,o⟩:=u a g l;exact⟨p,hm,a,g,m,o⟩
  |brk=>exact k
  |ret v=>exact k
 |false=>
  rw[if_neg zP9];exact z80 ⟨d,y,q,j⟩
end
structure It where
 go:Nat->Hp->Prop
 yld:Nat->Hp->V->Hp->Prop
 stop:Nat->Hp->Prop
def yX (X:Cx)(pins:List (Addr×Obj))(H:Hp)(b:Addr):Prop:=
 H b=none/\b≠X.env.locals/\b∉X.fs/\(b∈X.ex\/X.s₀.heap.objs.size<=b)/\(∀x c,X.env.cells.lookup x=some c->c≠b)/\∀p∈X.pn++pins,p.1≠b
theorem Inv.fpOk {X:Cx}{pins:List (Addr×Obj)}{σ:St}{H H':Hp}{s:Shared}{b:Addr}(I:Inv X pins σ H s)(hb:s.heap.objs.size<=b)(hn:H' b=none):yX X pins H' b:=by
 refine⟨hn,zY4 (zN4 I.lt hb),I.nofs hb,.inr (zO0 I.sz hb),λx c e z=>?_,λp a z=>?_⟩
 ·obtain⟨v,q⟩:=I.cell x c e;exact absurd (zN4 q.lt (by rw[z];exact hb)) (zT2 _)
 ·exact absurd (zN4 (zO4 (I.pin p a).1) (by rw[z];exact hb)) (zT2 _)
structure Turn (P:Program)(w:World)(K:PySem.W.Frag)(tg:Expr)(J:It)(fp:List Addr)(it:Addr)(tn:Nat->Heap->Prop):Prop where
 mem:it∈fp
 obj:∀i h,tn i h->∀b∈fp,∃o,h.get? b=some o/\∀v,o.data≠.cell v
 keep:∀i h h',tn i h->(∀b∈fp,∀o,h.get? b=some o->h'.get? b=some o)->tn i h'
 item:∀(X:Cx),X.prog=P->X.w=w->X.K=K->X.calm=true->∀(i:Nat) (pins:List (Addr×Obj)) (s:Shared) (σ:St) (H:Hp) (E:Value->Shared->Prop),Inv X pins σ H s->(∀b∈fp,yX X pins H b)->tn i s.heap->J.go i H->
  wpAny (model P w) X.A (pyNext (.ref it)) (λr s1=>∃u,r=some u/\
   wpAny (model P w) X.A (letOwnedTupleGo tg (.ref it) u) (λ_ s2=>∃x H',Inv X pins σ H' s2/\RelV x u/\J.yld i H x H'/\tn (i+1) s2.heap/\∀b∈fp,H' b=none) E s1) E s
 done:∀(X:Cx),X.prog=P->X.w=w->X.K=K->X.calm=true->∀(i:Nat) (pins:List (Addr×Obj)) (s:Shared) (σ:St) (H:Hp) (E:Value->Shared->Prop),Inv X pins σ H s->(∀b∈fp,yX X pins H b)->tn i s.heap->J.stop i H->
  wpAny (model P w) X.A (pyNext (.ref it)) (λr s1=>r=none/\Inv X pins σ H s1) E s
 self:∀(A:Around) (i:Nat) (s:Shared) (Q:Value->Shared->Prop) (E:Value->Shared->Prop),tn i s.heap->Q (.ref it) s->wpAny (model P w) A (pyIter (.ref it)) Q E s
abbrev TI :=St->Hp->(It->Hp->Prop)->Prop
def PIE (X:Cx)(pins:List (Addr×Obj))(σ:St)(tg:Expr)(R:It->Hp->Prop)(a:Value)(s2:Shared):Prop:=
 ∃(it:Addr) (fp:List Addr) (tn:Nat->Heap->Prop) (J:It) (H':Hp),a=.ref it/\Inv X pins σ H' s2/\Turn X.prog X.w X.K tg J fp it tn/\tn 0 s2.heap/\(∀b∈fp,yX X pins H' b)/\R J H'
def PI (X:Cx)(tg iter:Expr)(a:TI):Prop:=
 ∀(pins:List (Addr×Obj)) (s:Shared) (σ:St) (H:Hp) (R:It->Hp->Prop),Inv X pins σ H s->a σ H R->
  wpAny (model X.prog X.w) X.A (eval iter X.env) (λv s1=>wpAny (model X.prog X.w) X.A (pyIter v) (PIE X pins σ tg R) X.xe s1) X.xe s
theorem jR {M:Model}{A:Around}{E:Value->Shared->Prop}{s:Shared}{tg:Expr}{it:Addr}{u:Value}{o:Obj}{n:String}{vs:Array Value}{Q:Unit->Shared->Prop}(b:s.heap.get? it=some o)(c:o.cls=.type n)(hd:o.data=.fields vs)
  (hn:["enumerate","zip","dict_itemiterator","dict_reverseitemiterator","odict_iterator","itertools.zip_longest","itertools.pairwise"].contains n=false) (a:Q () s):wpAny M A (letOwnedTupleGo tg (.ref it) u) Q E s:=by
 unfold letOwnedTupleGo;cases tg<;>first
  |exact zN1 a
  |(cases u<;>first
    |exact zN1 a
    |(refine zM8 (wpAny_load b ?_)
      rw[c,hd];show wpAny M A (if(["enumerate","zip","dict_itemiterator","dict_reverseitemiterator","odict_iterator","itertools.zip_longest","itertools.pairwise"].contains n&&vs[0]? == some (rawInt _))=true then _ else _) Q E s;rw[if_neg (by intro h;rw[hn,z43]at h;cases h)];exact zN1 a))
def Itl (K:PySem.W.Frag)(a:Addr):It:=
 ⟨λi H=>∃xs x,SqL K H a xs/\xs[i]?=some x,λi H x H'=>H'=H/\∀xs,SqL K H a xs->xs[i]?=some x,λi H=>∃xs,SqL K H a xs/\xs.length<=i⟩
def Itt (K:PySem.W.Frag)(a:Addr):It:=
 ⟨λi H=>∃xs x,SqT K H a xs/\xs[i]?=some x,λi H x H'=>H'=H/\∀xs,SqT K H a xs->xs[i]?=some x,λi H=>∃xs,SqT K H a xs/\xs.length<=i⟩
def Itr (lo:Int)(n:Nat):It:=⟨λi _=>i<n,λi H x H'=>H'=H/\x=.int (lo+i),λi _=>n<=i⟩
theorem iD {P:Program}{w:World}{K:PySem.W.Frag}{tg:Expr}(a it:Addr):Turn P w K tg (Itl K a) [it] it (λi h=>h.IsListIter it a i) where
 mem:=by simp
 obj:=λi h st b hb=>by
  have e:b=it:=by simpa using hb
  subst e;obtain⟨o,e,c,d⟩:=st;exact⟨o,e,λv z=>by rw[d]at z;cases z⟩
 keep:=λi h h' st k=>st.at λo e=>k it (by simp) o e
 item:=by
  intro X l hw g q i pins s σ H E I hf st hg;subst l hw g;obtain⟨xs,x,hq,f⟩:=hg;obtain⟨its,j,p,hz⟩:=I.list hq;obtain⟨u,B,A⟩:=j.get f;obtain⟨f0,f1,f2,n,f4,m⟩:=hf it (by simp);refine wpAny_pyNext_list_item st p.isList (x:=u) (by simpa using B) λh' st' sb=>?_;have t:Inv X pins σ H {s with heap:=h'}:=I.turned (t':=s.toks) (λb o hb e=>(sb.2 b hb).trans e) f0 f1 n f4 m;obtain⟨o,e,c,d⟩:=id st';exact⟨u,rfl,jR (s:={s with heap:=h'}) e c d (by decide) ⟨x,H,t,A,⟨rfl,λys hy=>by rw[I.list_inj hy hq];exact f⟩,st',λb hb=>(hf b hb).1⟩⟩
 done:=by
  intro X l hw g q i pins s σ H E I hf st hg;subst l hw g;obtain⟨xs,hq,f⟩:=hg;obtain⟨its,j,p,hz⟩:=I.list hq;obtain⟨f0,f1,f2,n,f4,m⟩:=hf it (by simp);have y:=j.length;exact wpAny_pyNext_list_end (I.ok.hd q) st p.isList (by simp;exact zO0 (zO9 y.symm) f) λh' r=>⟨rfl,I.turned (t':=s.toks) (λb o hb e=>r b o hb e) f0 f1 n f4 m⟩
 self:=λ_ _ _ _ _ st h=>wpAny_pyIter_listiter st h
theorem mV {P:Program}{w:World}{K:PySem.W.Frag}{tg:Expr}(a it:Addr):Turn P w K tg (Itt K a) [it] it (λi h=>h.IsTupleIter it a i) where
 mem:=by simp
 obj:=λi h st b hb=>by
  have e:b=it:=by simpa using hb
  subst e;obtain⟨o,e,c,d⟩:=st;exact⟨o,e,λv z=>by rw[d]at z;cases z⟩
 keep:=λi h h' st k=>st.at λo e=>k it (by simp) o e
 item:=by
  intro X l hw g q i pins s σ H E I hf st hg;subst l hw g;obtain⟨xs,x,hq,f⟩:=hg;obtain⟨its,j,p,hz⟩:=I.tuple hq;obtain⟨u,B,A⟩:=j.get f;obtain⟨f0,f1,f2,n,f4,m⟩:=hf it (by simp);refine wpAny_pyNext_tuple_item st (show s.heap.IsTuple a its.toArray from p) (x:=u) (by simpa using B) λh' st' sb=>?_;have t:Inv X pins σ H {s with heap:=h'}:=I.turned (t':=s.toks) (λb o hb e=>(sb.2 b hb).trans e) f0 f1 n f4 m;obtain⟨o,e,c,d⟩:=id st';exact⟨u,rfl,jR (s:={s with heap:=h'}) e c d (by decide) ⟨x,H,t,A,⟨rfl,λys hy=>by rw[I.tuple_inj hy hq];exact f⟩,st',λb hb=>(hf b hb).1⟩⟩
 done:=by
  intro X l hw g q i pins s σ H E I hf st hg;subst l hw g;obtain⟨xs,hq,f⟩:=hg;obtain⟨its,j,p,hz⟩:=I.tuple hq;obtain⟨f0,f1,f2,n,f4,m⟩:=hf it (by simp);have y:=j.length;exact wpAny_pyNext_tuple_end (I.ok.hd q) st (show s.heap.IsTuple a its.toArray from p) (by simp;exact zO0 (zO9 y.symm) f) λh' r=>⟨rfl,I.turned (t':=s.toks) (λb o hb e=>r b o hb e) f0 f1 n f4 m⟩
 self:=λ_ _ _ _ _ st h=>wpAny_pyIter_tupleiter st h
theorem lR {P:Program}{w:World}{K:PySem.W.Frag}{tg:Expr}(it:Addr)(lo:Int)(n:Nat):Turn P w K tg (Itr lo n) [it] it (λi h=>IsRangeIter h it (lo+(i:Nat)*1) ((n:Int)-(i:Nat)) 1) where
 mem:=by simp
 obj:=λi h st b hb=>by
  have e:b=it:=by simpa using hb
  subst e;exact⟨_,st,λv z=>by
   have p:Data.fields _=Data.cell v:=z;cases p⟩
 keep:=λi h h' st k=>k it (by simp) _ st
 item:=by
  intro X c hw a d i pins s σ H E I hf st hg;subst c hw a;obtain⟨f0,f1,f2,g,f4,f⟩:=hf it (by simp);have W:=Walks.range (prog:=X.prog) (w:=X.w) (I.ok.hd d) it lo 1 n;refine W.item i s _ _ hg st λv h' tk m st' j=>?_;obtain⟨t,rfl⟩:=m;have q:Inv X pins σ H {s with heap:=h',toks:=tk}:=I.turned (λb o hb e=>j b o (by simpa using hb) e) f0 f1 g f4 f;refine⟨_,rfl,jR (s:={s with heap:=h',toks:=tk}) (n:="range_iterator") st' rfl rfl (by decide) ⟨.int (lo+i),H,q,⟨t,?_⟩,⟨rfl,rfl⟩,st',λb hb=>(hf b hb).1⟩⟩;rw[Int.mul_one]
 done:=by
  intro X c hw a d i pins s σ H E I hf st hg;subst c hw a;obtain⟨f0,f1,f2,g,f4,f⟩:=hf it (by simp);exact wpAny_pyNext_range_end (I.ok.hd d) st (by have:n<=i:=hg;exact zH6 this) λh' l=>⟨rfl,I.turned (t':=s.toks) (λb o hb e=>l b o hb e) f0 f1 g f4 f⟩
 self:=λ_ _ _ _ _ st h=>wpAny_pyIter_rangeiter st h
section
variable {X:Cx}{tg:Expr}
def zA9 (K:PySem.W.Frag)(b:TE):TI:=λσ H R=>b σ H λx H1=>∃a,x=.ref a/\(∃xs,SqL K H1 a xs)/\R (Itl K a) H1
def zI7 (K:PySem.W.Frag)(b:TE):TI:=λσ H R=>b σ H λx H1=>∃a,x=.ref a/\(∃xs,SqT K H1 a xs)/\R (Itt K a) H1
theorem jS {l:Expr}{f:TE}(g:PE X l f):PI X tg l (zA9 X.K f):=by
 intro pins s σ H R I h;refine thn (g pins s σ H _ I h) λv s1 c=>?_;obtain⟨x,H1,d,i,j⟩:=c;obtain⟨a,e,⟨xs,hq⟩,q⟩:=j;subst e;cases i;obtain⟨its,k,p,hz⟩:=d.list hq;refine z41 p.isList ?_;refine⟨s1.heap.objs.size,[s1.heap.objs.size],_,_,H1,rfl,d.kept (t':=s1.toks) λb o e=>zM9 _ e,iD a _,⟨_,zO2 _ rfl,rfl,rfl⟩,λb hb=>?_,q⟩;have e:b=s1.heap.objs.size:=by simpa using hb
 subst e;exact d.fpOk (zN5 _) (d.hok.fresh (zN5 _))
theorem zy7 {l:Expr}{f:TE}(g:PE X l f):PI X tg l (zI7 X.K f):=by
 intro pins s σ H R I h;refine thn (g pins s σ H _ I h) λv s1 c=>?_;obtain⟨x,H1,d,i,j⟩:=c;obtain⟨a,e,⟨xs,hq⟩,q⟩:=j;subst e;cases i;obtain⟨its,k,p,hz⟩:=d.tuple hq;refine wpAny_pyIter_tuple (show s1.heap.IsTuple a its.toArray from p) ?_;refine⟨s1.heap.objs.size,[s1.heap.objs.size],_,_,H1,rfl,d.kept (t':=s1.toks) λb o e=>zM9 _ e,mV a _,⟨_,zO2 _ rfl,rfl,rfl⟩,λb hb=>?_,q⟩;have e:b=s1.heap.objs.size:=by simpa using hb
 subst e;exact d.fpOk (zN5 _) (d.hok.fresh (zN5 _))
theorem oH {pins:List (Addr×Obj)}{σ:St}{H:Hp}{s:Shared}{R:It->Hp->Prop}{E:Value->Shared->Prop}{lo hi:Int}{t u v:Tok}{tk:Nat}(I:Inv X pins σ H s)(d:-(2 ^ 62)<=lo)(f:lo<2 ^ 62)(c:-(2 ^ 62)<=hi)(h:hi<2 ^ 62)
  (q:R (Itr lo (hi-lo).toNat) H):wpAny (model X.prog X.w) X.A (pyIter (.ref s.heap.objs.size)) (PIE X pins σ tg R) E {s with heap:=s.heap.push {cls:=.type "range",data:=.fields #[.int lo t,.int hi u,.int 1 v]},toks:=tk}:=by
 refine wpAny_pyIter_range (IsRange.new ..) (small_one d f c h) ?_;have a:Inv X pins σ H {s with heap:=s.heap.push {cls:=.type "range",data:=.fields #[.int lo t,.int hi u,.int 1 v]},toks:=tk}:=I.kept λb o e=>zM9 _ e;refine⟨(s.heap.push {cls:=.type "range",data:=.fields #[.int lo t,.int hi u,.int 1 v]}).objs.size,[(s.heap.push {cls:=.type "range",data:=.fields #[.int lo t,.int hi u,.int 1 v]}).objs.size],_,_,H,rfl,
  a.kept (t':=tk) λb o e=>zM9 _ e,lR _ lo (hi-lo).toNat,?_,λb hb=>?_,q⟩
 ·have e1:lo+((0:Nat):Int)*1=lo:=by simp
  have g:(((hi-lo).toNat:Nat):Int)-((0:Nat):Int)=Builtin.Range.rangeSize lo hi 1:=by rw[rangeSize_one];split<;>lia
  show IsRangeIter _ _ (lo+((0:Nat):Int)*1) ((((hi-lo).toNat:Nat):Int)-((0:Nat):Int)) 1;rw[e1,g];exact zO2 _ rfl
 ·have e:b=(s.heap.push {cls:=.type "range",data:=.fields #[.int lo t,.int hi u,.int 1 v]}).objs.size:=by simpa using hb
  subst e;exact a.fpOk (zN5 _) (a.hok.fresh (zN5 _))
def zB8 (a:TA):TI:=λσ H R=>a σ H λvs H1=>∃j:Int,vs=[.int j]/\-(2 ^ 62)<=j/\j<2 ^ 62/\R (Itr 0 j.toNat) H1
def zI0 (a:TA):TI:=λσ H R=>a σ H λvs H1=>∃i j:Int,vs=[.int i,.int j]/\(-(2 ^ 62)<=i/\i<2 ^ 62/\-(2 ^ 62)<=j/\j<2 ^ 62)/\R (Itr i (j-i).toNat) H1
theorem iw {a:Expr}{d:TA}{p pos:Pos}(hg:Gl X "range")(hm:X.mg "range"=none)(ha:PA X [a] d)(f:starEach [a] X.env=[(false,eval a X.env)]:=by rfl):PI X tg (.Call (.Name "range" p) [a] [] pos) (zB8 d):=by
 intro pins s σ H R I h;refine Call_ (xD I hg hm boot_range (zU7 (thn (ha pos pins s σ H _ I h) λus s1 b=>?_) f rfl));obtain⟨vs,H1,k,l,c⟩:=b;obtain⟨j,e,c,g,q⟩:=c;subst e;cases l with
 |cons r i=>
  cases i;obtain⟨t,rfl⟩:=r;exact call_range_1 (oH k (by decide) (by decide) c g (by simpa using q))
theorem iJ {a b:Expr}{g:TA}{p pos:Pos}(hg:Gl X "range")(hm:X.mg "range"=none)(ha:PA X [a,b] g)(k:starEach [a,b] X.env=[(false,eval a X.env),(false,eval b X.env)]:=by rfl)(c:starEach [b] X.env=[(false,eval b X.env)]:=by rfl):
  PI X tg (.Call (.Name "range" p) [a,b] [] pos) (zI0 g):=by
 intro pins s σ H R I h;refine Call_ (xD I hg hm boot_range (zU7 (thn (ha pos pins s σ H _ I h) λus s1 ⟨vs,H1,l,m,f⟩=>?_) (by rw[k,c]) (by rw[c];rfl)));obtain⟨i,j,e,⟨f,o,u,v⟩,q⟩:=f;subst e;cases m with
 |cons r d=>
  cases d with
  |cons n d=>
   cases d;obtain⟨t,rfl⟩:=r;obtain⟨t',rfl⟩:=n;exact call_range_2 (oH l f o u v q)
def zK1 (d:TI)(g:TG)(e:TS):TS:=λD σ H=>d σ H λJ H1=>∃W:Nat->Nat->St->Hp->Prop,(∃m,W 0 m σ H1)/\∀i m σ H,W i m σ H->
 (J.stop i H/\D.nx σ H)\/(J.go i H/\∃N:St->Hp->Prop,(∀a H',N a H'->∃b,b<m/\W (i+1) b a H')/\∀x H',J.yld i H x H'->g x σ H' λσ2 c=>e {D with nx:=N,ct:=N,bk:=D.nx} σ2 c)
def rL (fp:List Addr)(h:Heap):List (Addr×Obj):=fp.filterMap λb=>(h.get? b).map λo=>(b,o)
theorem xT {fp:List Addr}{h:Heap}{b:Addr}{o:Obj}(hb:b∈fp)(e:h.get? b=some o):(b,o)∈rL fp h:=List.mem_filterMap.mpr ⟨b,hb,by rw[e];rfl⟩
theorem gq {fp:List Addr}{h:Heap}{p:Addr×Obj}(c:p∈rL fp h):p.1∈fp/\h.get? p.1=some p.2:=by
 obtain⟨b,hb,e⟩:=List.mem_filterMap.mp c;cases q:h.get? b with
 |none=>rw[q]at e;cases e
 |some o=>
  rw[q]at e;have a:(b,o)=p:=zR0 e;subst a;exact⟨hb,q⟩
theorem Inv.pinned {pins:List (Addr×Obj)}{σ:St}{H:Hp}{s:Shared}{fp:List Addr}(I:Inv X pins σ H s)(hf:∀b∈fp,yX X pins H b)(c:∀b∈fp,∃o,s.heap.get? b=some o/\∀v,o.data≠.cell v):Inv X (pins++rL fp s.heap) σ H s:=
 I.pins_of λp f=>(zP4.mp f).elim (λz=>I.pin p (zO6 _ z)) λz=>by
  obtain⟨hb,e⟩:=gq z;obtain⟨f0,f1,f2,_⟩:=hf p.1 hb;obtain⟨o,a,d⟩:=c p.1 hb;rw[e]at a;cases a;exact⟨e,f0,f1,f2,d⟩
theorem Inv.unpinned {pins pl:List (Addr×Obj)}{σ:St}{H:Hp}{s:Shared}(I:Inv X (pins++pl) σ H s):Inv X pins σ H s:=I.pins_of λp a=>I.pin p (zO6 _ (zP6 _ a))
theorem cA {iter:Expr}{body:List Stmt}{S:TI}{g:TG}{Y:TS}{pos:Pos}(B:PassesOwn (model X.prog X.w) X.A X.env X.xe)(Z:X.calm=true)(hi:PI X tg iter S)(hg:PG X tg g)(hb:PSs X body Y)
  (hs:∀x,foldedSetIterable iter X.env x=pure x:=by intro _;rfl):PS X (.For tg iter body [] pos) (zK1 S g Y):=by
 intro pins s σ H D I h;refine wpAny_For (thn (hi pins s σ H _ I h) λv s1 h1=>thn h1 λa0 s2 h2=>?_) hs;obtain⟨it,fp,tn,J,H2,e,I2,T,O,f2,W,⟨m0,w0⟩,turn⟩:=h2;subst e
 -- what stays true of the iterator's objects through the loop
 have l:∀{H':Hp},(∀b∈fp,H' b=none)->∀b∈fp,yX X pins H' b:=λhn b hb=>⟨hn b hb,(f2 b hb).2⟩;refine codeAny_forLoop_any (λn s'=>∃i p H',Inv X pins p H' s'/\tn i s'.heap/\(∀b∈fp,H' b=none)/\W i n p H') ?_ m0 ⟨0,σ,H2,I2,O,λb hb=>(f2 b hb).1,w0⟩;rintro n s3 ⟨i,c,L,V,K,z,w3⟩;rcases turn i n c L w3 with⟨stop,qn⟩|⟨go,N,hN,step⟩
 ·refine z09 B (thn (T.done X rfl rfl rfl Z i pins s3 c L X.xe V (l z) K stop) λr s4 F=>?_);obtain⟨hr,I4⟩:=F;subst hr;exact z80 ⟨c,L,I4,qn⟩
 ·refine z09 B (thn (T.item X rfl rfl rfl Z i pins s3 c L X.xe V (l z) K go) λr s4 y=>?_);obtain⟨u,hr,h4⟩:=y;subst hr;refine z09 B (thn h4 λ_ s5 C=>?_);obtain⟨x,U,I5,r5,y5,t,Q⟩:=C;have M:=I5.pinned (l Q) (T.obj _ _ t);refine z09 B (thn (hg _ s5 c U x u _ M r5 (step x U y5)) λ_ s6 E=>?_);obtain⟨R,H6,I6,q6⟩:=E;refine z09 B (thn (hb _ s6 R H6 _ I6 q6) λf P q=>?_);have again:∀{a:St} {k:Hp},Inv X (pins++rL fp s5.heap) a k P->N a k->∃m,m<n/\∃i p H',Inv X pins p H' P/\tn i P.heap/\(∀b∈fp,H' b=none)/\W i m p H':=λ{a k} j G=>by
   obtain⟨m',hm,w7⟩:=hN a k G;refine⟨m',hm,i+1,a,k,j.unpinned,T.keep _ _ _ t λb hb o e=>(j.pin (b,o) (zO6 _ (zO6 _ (xT hb e)))).1,λb hb=>?_,w7⟩;obtain⟨o,e,d⟩:=T.obj _ _ t b hb;exact(j.pin (b,o) (zO6 _ (zO6 _ (xT hb e)))).2.1
  cases f with
  |next=>obtain⟨a,k,j,G⟩:=q;exact again j G
  |cont=>obtain⟨a,k,j,G⟩:=q;exact again j G
  |brk=>obtain⟨a,k,j,q⟩:=q;exact⟨a,k,j.unpinned,q⟩
  |ret v=>obtain⟨x7,a,k,j,r7,q⟩:=q;exact⟨x7,a,k,j.unpinned,r7,q⟩
end
abbrev R2 :=V->V->Hp->VK->Prop
def OpR (X:Cx)(f:Value->Value->Sem Value)(r:R2):Prop:=
 ∀(pins:List (Addr×Obj)) (s:Shared) (σ:St) (H:Hp) (x y:V) (v u:Value) (Q:VK),Inv X pins σ H s->RelV x v->RelV y u->r x y H Q->
  wpAny (model X.prog X.w) X.A (f v u) (EP X pins σ Q) X.xe s
def UnR (X:Cx)(f:Value->Sem Value)(r:V->Hp->VK->Prop):Prop:=
 ∀(pins:List (Addr×Obj)) (s:Shared) (σ:St) (H:Hp) (x:V) (v:Value) (Q:VK),Inv X pins σ H s->RelV x v->r x H Q->
  wpAny (model X.prog X.w) X.A (f v) (EP X pins σ Q) X.xe s
def xl (X:Cx)(f:Value)(r:List V->Hp->VK->Prop):Prop:=
 ∀(pins:List (Addr×Obj)) (s:Shared) (σ:St) (H:Hp) (xs:List V) (us:List Value) (Q:VK),Inv X pins σ H s->Vals xs us->r xs H Q->
  wpAny (model X.prog X.w) X.A (call f us) (EP X pins σ Q) X.xe s
def zK9 (X:Cx)(r:V->Hp->(Bool->Hp->Prop)->Prop):Prop:=
 ∀(pins:List (Addr×Obj)) (s:Shared) (σ:St) (H:Hp) (x:V) (v:Value) (Q:Bool->Hp->Prop),Inv X pins σ H s->RelV x v->r x H Q->
  wpAny (model X.prog X.w) X.A (truthy v) (TP X pins σ Q) X.xe s
def tOp (r:R2)(c b:TE):TE:=λσ H Q=>c σ H λx H1=>b σ H1 λy a=>r x y a Q
def tUn (r:V->Hp->VK->Prop)(a:TE):TE:=λσ H Q=>a σ H λx H1=>r x H1 Q
def rI (C:Int->Int->Prop)(g:Int->Int->V):R2:=λx y H Q=>∃i j,x=.int i/\y=.int j/\C i j/\Q (g i j) H
def rI0 (g:Int->Int->V):R2:=λx y H Q=>∃i j,x=.int i/\y=.int j/\Q (g i j) H
def rU (g:Int->V):V->Hp->VK->Prop:=λx H Q=>∃i,x=.int i/\Q (g i) H
section
variable {X:Cx}{a b c:Expr}{ta tb tc:TE}{pos:Pos}
theorem zs4 (ha:PE X a ta)(hb:PE X b tb){pins:List (Addr×Obj)}{s:Shared}{σ:St}{H:Hp}{R:V->V->Hp->Prop}(I:Inv X pins σ H s)
  (h:ta σ H λx H1=>tb σ H1 λy d=>R x y d) {Q:Value->Shared->Prop} {f:Value->Value->Sem Value}
  (hf:∀v u s2 x y d,Inv X pins σ d s2->RelV x v->RelV y u->R x y d->wpAny (model X.prog X.w) X.A (f v u) Q X.xe s2):
  wpAny (model X.prog X.w) X.A (eval a X.env) (λv g=>wpAny (model X.prog X.w) X.A (eval b X.env) (λu j=>wpAny (model X.prog X.w) X.A (f v u) Q X.xe j) X.xe g) X.xe s:=by
 refine thn (ha pins s σ H _ I h) λv s1 i=>?_;obtain⟨x,H1,m,o,p⟩:=i;refine thn (hb pins s1 σ H1 _ m p) λu s2 e=>?_;obtain⟨y,d,l,n,k⟩:=e;exact hf v u s2 x y d l o n k
theorem yW {op:Operator}{r:R2}(e:OpR X (binaryOp op) r)(ha:PE X a ta)(hb:PE X b tb):PE X (.BinOp a op b pos) (tOp r ta tb):=by
 intro pins s σ H Q I h;exact wpAny_BinOp (zs4 ha hb I h λv u s2 x y d f g i q=>e pins s2 σ d x y v u Q f g i q)
theorem zi4 {op:UnaryOp}{r:V->Hp->VK->Prop}(e:UnR X (unaryOp op) r)(ha:PE X a ta):PE X (.UnaryOp op a pos) (tUn r ta):=by
 intro pins s σ H Q I h;exact UnaryOp_ (thn (ha pins s σ H _ I h) λv s1 d=>by obtain⟨x,H1,f,g,i⟩:=d;exact e pins s1 σ H1 x v Q f g i)
theorem opI {f:Value->Value->Sem Value}{C:Int->Int->Prop}{g:Int->Int->Int}
  (rule:∀(i j:Int) (t u:Tok) (s:Shared) (Q:Value->Shared->Prop) (E:Value->Shared->Prop),C i j->Q (.int (g i j) s.toks) {s with toks:=s.toks+1}->wpAny (model X.prog X.w) X.A (f (.int i t) (.int j u)) Q E s):
  OpR X f (rI C λi j=>.int (g i j)):=by
 intro pins s σ H x y v u Q I d k h;obtain⟨i,j,rfl,rfl,e,q⟩:=h;obtain⟨t,rfl⟩:=d;obtain⟨t',rfl⟩:=k;exact rule i j t t' s _ _ e ⟨.int (g i j),H,I.tok _,⟨_,rfl⟩,q⟩
theorem zA5 {f:Value->Value->Sem Value}{g:Int->Int->Int}
  (rule:∀(i j:Int) (t u:Tok) (s:Shared) (Q:Value->Shared->Prop) (E:Value->Shared->Prop),Q (.int (g i j) s.toks) {s with toks:=s.toks+1}->wpAny (model X.prog X.w) X.A (f (.int i t) (.int j u)) Q E s):
  OpR X f (rI0 λi j=>.int (g i j)):=by
 intro pins s σ H x y v u Q I d e h;obtain⟨i,j,rfl,rfl,q⟩:=h;obtain⟨t,rfl⟩:=d;obtain⟨t',rfl⟩:=e;exact rule i j t t' s _ _ ⟨.int (g i j),H,I.tok _,⟨_,rfl⟩,q⟩
theorem aD {f:Value->Value->Sem Value}{g:Int->Int->Bool}
  (rule:∀(i j:Int) (t u:Tok) (s:Shared) (Q:Value->Shared->Prop) (E:Value->Shared->Prop),Q (.bool (g i j)) s->wpAny (model X.prog X.w) X.A (f (.int i t) (.int j u)) Q E s):
  OpR X f (rI0 λi j=>.bl (g i j)):=by
 intro pins s σ H x y v u Q I d e h;obtain⟨i,j,rfl,rfl,q⟩:=h;obtain⟨t,rfl⟩:=d;obtain⟨t',rfl⟩:=e;exact rule i j t t' s _ _ ⟨.bl (g i j),H,I,rfl,q⟩
def zs5 (i j:Int):Prop:=0<=j/\j<=1000000/\i.natAbs<2 ^ 64
def za9 (i j:Int):Prop:=(-(2 ^ 64)<i/\i<2 ^ 64)\/(-(2 ^ 64)<j/\j<2 ^ 64)
theorem za9.ok {i j:Int}(h:za9 i j):IntMulOk i j:=by
 rcases h with⟨d,e⟩|⟨d,e⟩
 ·exact .of_left (intBits_le_64 d e)
 ·exact .of_right (intBits_le_64 d e)
theorem oq :OpR X (binaryOp .Add) (rI0 λi j=>.int (i+j)):=zA5 λ_ _ _ _ _ _ _ q=>add_int q
theorem zr8 :OpR X (binaryOp .Sub) (rI0 λi j=>.int (i-j)):=zA5 λ_ _ _ _ _ _ _ q=>sub_int q
theorem pL :OpR X (binaryOp .Mult) (rI za9 λi j=>.int (i*j)):=opI λ_ _ _ _ _ _ _ d q=>mul_int q d.ok
theorem rD :OpR X (binaryOp .Mod) (rI (λ_ j=>0<j) λi j=>.int (i % j)):=opI λi j _ _ _ _ _ d q=>by
 have e:(0:Int)<j:=d;exact mod_int' (Int.ne_of_gt d) (by rw[Int.fmod_eq_emod_of_nonneg i (z06 d)];exact q)
theorem zu1 :OpR X (binaryOp .Pow) (rI zs5 λi j=>.int (i ^ j.toNat)):=opI λ_ _ _ _ _ _ _ d q=>pow_int_small d.1 d.2.1 d.2.2 q
theorem unI {f:Value->Sem Value}{g:Int->Int}
  (rule:∀(i:Int) (t:Tok) (s:Shared) (Q:Value->Shared->Prop) (E:Value->Shared->Prop),Q (.int (g i) s.toks) {s with toks:=s.toks+1}->wpAny (model X.prog X.w) X.A (f (.int i t)) Q E s):
  UnR X f (rU λi=>.int (g i)):=by
 intro pins s σ H x v Q I d h;obtain⟨i,rfl,q⟩:=h;obtain⟨t,rfl⟩:=d;exact rule i t s _ _ ⟨.int (g i),H,I.tok _,⟨_,rfl⟩,q⟩
theorem cn :UnR X (unaryOp .USub) (rU λi=>.int (-i)):=unI λ_ _ _ _ _ q=>neg_int q
end
def zB0 :V->V->Bool
 |.non,.non=>true|.non,.int _=>true|.int _,.non=>true|.non,.bl _=>true|.bl _,.non=>true|.non,.str _=>true|.str _,.non=>true
 |.int _,.int _=>true|.bl _,.bl _=>true|.str _,.str _=>true|.byt _,.byt _=>true
 |.int _,.str _=>true|.str _,.int _=>true|.bl _,.str _=>true|.str _,.bl _=>true
 |_,_=>false
def rEq :R2:=λx y H Q=>zB0 x y=true/\Q (.bl (decide (x=y))) H
def rNe :R2:=λx y H Q=>zB0 x y=true/\Q (.bl (!decide (x=y))) H
theorem jf {i j:Int}:decide (V.int i=V.int j)=(i == j):=by
 rw[z81];simp
theorem cy {i j:Bool}:decide (V.bl i=V.bl j)=(i == j):=by
 rw[z81];simp
theorem ig {i j:Str}:decide (V.str i=V.str j)=(i == j):=by
 rw[z81];simp
theorem ji {i j:Array UInt8}:decide (V.byt i=V.byt j)=(i.toList == j.toList):=by
 rw[z81];cases i;cases j;simp
section
variable {X:Cx}{a b c:Expr}{ta tb tc:TE}{pos:Pos}
theorem zz {pins:List (Addr×Obj)}{σ:St}{H:Hp}{s:Shared}{Q:VK}{k d:Bool}(I:Inv X pins σ H s)(q:Q (.bl k) H)(e:k=d):EP X pins σ Q (.bool d) s:=by
 subst e;exact⟨.bl k,H,I,rfl,q⟩
theorem cq :OpR X (compareOp .Eq) rEq:=by
 intro pins s σ H x y v u Q I f d h;obtain⟨e,q⟩:=h;cases x with
 |non=>
  cases f;cases y with
  |non=>cases d;exact PySem.EqNone.eq_none_none (zz I q (by simp))
  |bl j=>cases d;exact PySem.EqNone.eq_none_bool (zz I q (by simp))
  |int j=>obtain⟨t',rfl⟩:=d;exact PySem.EqNone.eq_none_int (zz I q (by simp))
  |str j=>obtain⟨t',rfl⟩:=d;exact PySem.EqNone.eq_none_str (zz I q (by simp))
  |_=>exact absurd (show false=true from e) zP9
 |bl i=>
  cases f;cases y with
  |non=>cases d;exact PySem.EqNone.eq_bool_none (zz I q (by simp))
  |bl j=>cases d;exact eq_bool (zz I q cy)
  |str j=>obtain⟨t',rfl⟩:=d;exact PySem.EqMixed.eq_bool_str (zz I q (by simp))
  |_=>exact absurd (show false=true from e) zP9
 |int i=>
  obtain⟨t,rfl⟩:=f;cases y with
  |non=>cases d;exact PySem.EqNone.eq_int_none (zz I q (by simp))
  |int j=>obtain⟨t',rfl⟩:=d;exact eq_int (zz I q jf)
  |str j=>obtain⟨t',rfl⟩:=d;exact PySem.EqMixed.eq_int_str (zz I q (by simp))
  |_=>exact absurd (show false=true from e) zP9
 |str i=>
  obtain⟨t,rfl⟩:=f;cases y with
  |non=>cases d;exact PySem.EqNone.eq_str_none (zz I q (by simp))
  |bl j=>cases d;exact PySem.EqMixed.eq_str_bool (zz I q (by simp))
  |int j=>obtain⟨t',rfl⟩:=d;exact PySem.EqMixed.eq_str_int (zz I q (by simp))
  |str j=>obtain⟨t',rfl⟩:=d;exact eq_str (zz I q ig)
  |_=>exact absurd (show false=true from e) zP9
 |byt i=>
  obtain⟨t,rfl⟩:=f;cases y with
  |byt j=>obtain⟨t',rfl⟩:=d;exact PySem.W.eq_bytes (zz I q ji)
  |_=>exact absurd (show false=true from e) zP9
 |_=>cases y<;>exact absurd (show false=true from e) zP9
theorem zF3 :OpR X (compareOp .NotEq) rNe:=by
 intro pins s σ H x y v u Q I f d h;obtain⟨e,q⟩:=h;cases x with
 |non=>
  cases f;cases y with
  |non=>cases d;exact PySem.EqNone.ne_none_none (zz I q (by simp))
  |bl j=>cases d;exact PySem.EqNone.ne_none_bool (zz I q (by simp))
  |int j=>obtain⟨t',rfl⟩:=d;exact PySem.EqNone.ne_none_int (zz I q (by simp))
  |str j=>obtain⟨t',rfl⟩:=d;exact PySem.EqNone.ne_none_str (zz I q (by simp))
  |_=>exact absurd (show false=true from e) zP9
 |bl i=>
  cases f;cases y with
  |non=>cases d;exact PySem.EqNone.ne_bool_none (zz I q (by simp))
  |bl j=>cases d;exact ne_bool (zz I q (congrArg not cy))
  |str j=>obtain⟨t',rfl⟩:=d;exact PySem.EqMixed.ne_bool_str (zz I q (by simp))
  |_=>exact absurd (show false=true from e) zP9
 |int i=>
  obtain⟨t,rfl⟩:=f;cases y with
  |non=>cases d;exact PySem.EqNone.ne_int_none (zz I q (by simp))
  |int j=>obtain⟨t',rfl⟩:=d;exact ne_int (zz I q (congrArg not jf))
  |str j=>obtain⟨t',rfl⟩:=d;exact PySem.EqMixed.ne_int_str (zz I q (by simp))
  |_=>exact absurd (show false=true from e) zP9
 |str i=>
  obtain⟨t,rfl⟩:=f;cases y with
  |non=>cases d;exact PySem.EqNone.ne_str_none (zz I q (by simp))
  |bl j=>cases d;exact PySem.EqMixed.ne_str_bool (zz I q (by simp))
  |int j=>obtain⟨t',rfl⟩:=d;exact PySem.EqMixed.ne_str_int (zz I q (by simp))
  |str j=>obtain⟨t',rfl⟩:=d;exact ne_str (zz I q (congrArg not ig))
  |_=>exact absurd (show false=true from e) zP9
 |byt i=>
  obtain⟨t,rfl⟩:=f;cases y with
  |byt j=>obtain⟨t',rfl⟩:=d;exact PySem.W.ne_bytes (zz I q (congrArg not ji))
  |_=>exact absurd (show false=true from e) zP9
 |_=>cases y<;>exact absurd (show false=true from e) zP9
theorem zn8 :OpR X (compareOp .Lt) (rI0 λi j=>.bl (decide (i<j))):=aD λ_ _ _ _ _ _ _ q=>lt_int q
theorem rq :OpR X (compareOp .LtE) (rI0 λi j=>.bl (decide (i<=j))):=aD λ_ _ _ _ _ _ _ q=>le_int q
theorem zm1 :OpR X (compareOp .Gt) (rI0 λi j=>.bl (decide (j<i))):=aD λ_ _ _ _ _ _ _ q=>gt_int q
theorem zC6 :OpR X (compareOp .GtE) (rI0 λi j=>.bl (decide (j<=i))):=aD λ_ _ _ _ _ _ _ q=>ge_int q
theorem bV :OpR X (compareOp .Is) (λx y H Q=>y=.non/\Q (.bl (decide (x=.non))) H):=by
 intro pins s σ H x y v u Q I d e h;obtain⟨rfl,q⟩:=h;cases e;refine is_none_gen (zz I q ?_);cases x<;>first
  |(cases d;rfl)
  |(obtain⟨t,rfl⟩:=d;rfl)
theorem aH :OpR X (compareOp .IsNot) (λx y H Q=>y=.non/\Q (.bl (!decide (x=.non))) H):=by
 intro pins s σ H x y v u Q I d e h;obtain⟨rfl,q⟩:=h;cases e;refine isnot_none_gen (zz I q ?_);cases x<;>first
  |(cases d;rfl)
  |(obtain⟨t,rfl⟩:=d;rfl)
theorem yJ (b:Expr){op:CmpOp}(h:op≠.In:=by decide)(d:op≠.NotIn:=by decide):behindInMarks op b=false:=by
 have e1:(op == CmpOp.In)=false:=by cases op<;>first|rfl|exact absurd rfl h
 have e:(op == CmpOp.NotIn)=false:=by cases op<;>first|rfl|exact absurd rfl d
 cases b<;>simp[behindInMarks,e1,e]
theorem om {op:CmpOp}{r:R2}(e:OpR X (compareOp op) r)(ha:PE X a ta)(hb:PE X b tb)(hm:behindInMarks op b=false):PE X (.Compare a [op] [b] pos) (tOp r ta tb):=by
 intro pins s σ H Q I h;exact wpAny_Compare1 (zs4 ha hb I h λv u s2 x y d f g i q=>e pins s2 σ d x y v u Q f g i q) hm
def zk5 (t:TE):TT:=λσ H Q=>t σ H λx H'=>∃k,x=.bl k/\Q k H'
theorem jA {op:CmpOp}{r:R2}(i:OpR X (compareOp op) r)(ha:PE X a ta)(hb:PE X b tb)(hm:behindInMarks op b=false):PT X (.Compare a [op] [b] pos) (zk5 (tOp r ta tb)):=by
 intro pins s σ H Q I h;refine wpAny_isTrue_Compare1 (thn (ha pins s σ H _ I h) λv s1 ⟨x,H1,m,p,q⟩=>thn (hb pins s1 σ H1 _ m q) λu s2 ⟨y,d,j,o,f⟩=>
  thn (i pins s2 σ d x y v u _ j p o f) λc s3 ⟨z,t,n,g,k,e,l⟩=>?_) hm
 subst e;cases g;exact zW2 ⟨t,n,l⟩
def dq (r g:R2)(ta tb tc:TE):TE:=λσ H Q=>ta σ H λx H1=>tb σ H1 λy e=>r x y e λz d=>∃k,z=.bl k/\
 (if k=true then tc σ d λh f=>g y h f Q else Q (.bl false) d)
theorem bH {op f:CmpOp}{r j:R2}(J:OpR X (compareOp op) r)(g:OpR X (compareOp f) j)(ha:PE X a ta)(hb:PE X b tb)(B:PE X c tc)
  (hm:lastMarks [op,f] [b,c]=false:=by with_unfolding_all rfl):PE X (.Compare a [op,f] [b,c] pos) (dq r j ta tb tc):=by
 intro pins s σ H Q I h;refine Compare_chain (thn (ha pins s σ H _ I h) λv s1 ⟨x,H1,t,w,A⟩=>chain_link (thn (hb pins s1 σ H1 _ t A) λu s2 ⟨y,E,p,n,F⟩=>
  thn (J pins s2 σ E x y v u _ p w n F) λd s3 ⟨z,l,i,G,k,e,m⟩=>?_)) hm
 subst e;cases G;refine zW2 ?_;cases k with
 |false=>exact ite_ff ⟨.bl false,l,i,rfl,m⟩
 |true=>exact ite_tt (chain_last (thn (B pins s3 σ l _ i m) λC s4 ⟨q,o,K,D,L⟩=>g pins s4 σ o y q u C Q K n D L))
theorem nB {op f:CmpOp}{r j:R2}(N:OpR X (compareOp op) r)(g:OpR X (compareOp f) j)(ha:PE X a ta)(hb:PE X b tb)(E:PE X c tc)
  (hm:lastMarks [op,f] [b,c]=false:=by with_unfolding_all rfl):PT X (.Compare a [op,f] [b,c] pos) (zk5 (dq r j ta tb tc)):=by
 intro pins s σ H Q I h;refine isTrue_chain (thn (ha pins s σ H _ I h) λv s1 ⟨x,H1,w,A,C⟩=>test_link (thn (hb pins s1 σ H1 _ w C) λu s2 ⟨y,J,q,n,K⟩=>
  thn (N pins s2 σ J x y v u _ q A n K) λd s3 ⟨z,l,i,L,k,e,m⟩=>?_)) hm
 subst e;cases L;refine zW2 ?_;cases k with
 |false=>
  obtain⟨U,R,S⟩:=m;cases R;exact ite_ff ⟨l,i,S⟩
 |true=>
  refine ite_tt (test_last (thn (E pins s3 σ l _ i m) λF s4 ⟨t,p,M,G,T⟩=>thn (g pins s4 σ p y t u F _ M n G T) λd' s5 ⟨W,P,o,D,V,B,O⟩=>?_));subst B;cases D;exact zW2 ⟨P,o,O⟩
def zA6 (K:PySem.W.Frag)(x:V)(H:Hp)(k:Bool):Prop:=
 match x with
 |.non=>k=false
 |.bl b=>k=b
 |.int i=>k=(i != 0)
 |.str y=>y.length<=sizeLine/\k=((y.length:Int) != 0)
 |.byt y=>y.size<=sizeLine/\k=((y.size:Int) != 0)
 |.ref p=>(∃xs,SqL K H p xs/\k=!xs.isEmpty)\/(∃xs,SqT K H p xs/\k=!xs.isEmpty)\/∃kvs,H p=some (.dK kvs)/\k=!kvs.isEmpty
 |_=>False
theorem lB {d:Type}{kvs:List (d×V)}{vs:List (d×Value)}(r:KV kvs vs):(!vs.isEmpty)=!kvs.isEmpty:=by
 cases r<;>rfl
theorem rA {xs:List V}{its:List Value}(r:Vals xs its):(!its.toArray.isEmpty)=!xs.isEmpty:=by
 cases r<;>simp
theorem uD :(sizeLine:Nat)<2 ^ 63:=by rw[zT1];decide
theorem zw1 :zK9 X (λx H Q=>∃k,zA6 X.K x H k/\Q k H):=by
 intro pins s σ H x v Q I f h;obtain⟨k,e,q⟩:=h;have n:=uD;have g:sizeLine=16777216:=zT1;cases x with
 |non=>
  cases f;have d:k=false:=e;subst d;exact truthy_none ⟨H,I,q⟩
 |bl b=>
  cases f;have d:k=b:=e;subst d;exact zW2 ⟨H,I,q⟩
 |int i=>
  obtain⟨t,rfl⟩:=f;have d:k=(i != 0):=e;subst d;exact PySem.P.truthy_int ⟨H,I,q⟩
 |str y=>
  obtain⟨t,rfl⟩:=f;obtain⟨hy,d⟩:y.length<=sizeLine/\k=((y.length:Int) != 0):=e;subst d;exact PySem.P.truthy_str (zC3 g hy) ⟨H,I.tok _,q⟩
 |byt y=>
  obtain⟨t,rfl⟩:=f;obtain⟨hy,d⟩:y.size<=sizeLine/\k=((y.size:Int) != 0):=e;subst d;exact PySem.W.truthy_bytes (zB9 g hy) ⟨H,I.tok _,q⟩
 |ref p=>
  cases f;have d:(∃xs,SqL X.K H p xs/\k=!xs.isEmpty)\/(∃xs,SqT X.K H p xs/\k=!xs.isEmpty)\/∃kvs,H p=some (.dK kvs)/\k=!kvs.isEmpty:=e;rcases d with⟨xs,j,d⟩|⟨xs,j,d⟩|⟨kvs,j,d⟩
  ·subst d;obtain⟨its,r,pl,hz⟩:=I.list j;have hlen:=r.length;exact wpAny_truthy_list pl.isList (by simp only[zO3];exact cm g hlen hz) ⟨H,I.tok _,by rw[rA r];exact q⟩
  ·subst d;obtain⟨its,r,pl,hz⟩:=I.tuple j;have hlen:=r.length;exact truthy_tuple pl (by simp only[zO3];exact cm g hlen hz) ⟨H,I.tok _,by rw[rA r];exact q⟩
  ·subst d;obtain⟨hz,l,vs,r,m⟩:kvs.length<=sizeLine/\(p == sysModules)=false/\∃vs,KV kvs vs/\s.heap.DictOf (yE X.prog X.w) p vs:=I.hok p _ j;have hlen:kvs.length=vs.length:=Paired.length r;exact wpAny_truthy_dict l m (cm g hlen hz) ⟨H,I.tok _,by rw[lB r];exact q⟩
 |_=>exact(show False from e).elim
theorem eu (ha:PE X a ta)(he:∀whole,isTrue a X.env whole=(do let v <-whole;standAt a.pos;holding [v] (truthy v))):
  PT X a (λσ H Q=>ta σ H λx H'=>∃k,zA6 X.K x H' k/\Q k H'):=by
 intro pins s σ H Q I h;exact isTrue_plain (thn (ha pins s σ H _ I h) λv s1 d=>by obtain⟨x,H1,e,f,g⟩:=d;exact zw1 pins s1 σ H1 x v Q e f g) (he _)
theorem vals1 {x:V}{us:List Value}(r:Vals [x] us):∃u,us=[u]/\RelV x u:=by
 cases r with
 |cons e d=>cases d;exact⟨_,rfl,e⟩
theorem vals2 {x y:V}{us:List Value}(r:Vals [x,y] us):∃u d,us=[u,d]/\RelV x u/\RelV y d:=by
 cases r with
 |cons g f=>
  cases f with
  |cons h e=>cases e;exact⟨_,_,rfl,g,h⟩
theorem fb (e:X.calm=true):xl X (.builtin "max") (λxs H Q=>∃i j,xs=[.int i,.int j]/\Q (.int (if j > i then j else i)) H):=by
 intro pins s σ H xs us Q I r h;obtain⟨i,j,rfl,q⟩:=h;obtain⟨u,f,rfl,⟨t,rfl⟩,⟨t',rfl⟩⟩:=vals2 r;refine max_two_ints (I.ok.hd e) λh' tk k=>⟨_,H,I.kept k,?_,q⟩;by_cases d:j > i
 ·rw[if_pos d,if_pos d];exact⟨_,rfl⟩
 ·rw[if_neg d,if_neg d];exact⟨_,rfl⟩
theorem fh (e:X.calm=true):xl X (.builtin "min") (λxs H Q=>∃i j,xs=[.int i,.int j]/\Q (.int (if j<i then j else i)) H):=by
 intro pins s σ H xs us Q I r h;obtain⟨i,j,rfl,q⟩:=h;obtain⟨u,f,rfl,⟨t,rfl⟩,⟨t',rfl⟩⟩:=vals2 r;refine min_two_ints (I.ok.hd e) λh' tk k=>⟨_,H,I.kept k,?_,q⟩;by_cases d:j<i
 ·rw[if_pos d,if_pos d];exact⟨_,rfl⟩
 ·rw[if_neg d,if_neg d];exact⟨_,rfl⟩
end
structure mL (h:Heap)(x dx C:Addr)(mA:Str->Option Value):Prop where
 obj:h.get? x=some (PySem.W.instObj C dx)
 ns:h.Ns1 dx mA
 ne:dx≠x
theorem gS {h:Heap}{dx:Addr}{mA:Str->Option Value}(n:h.Ns1 dx mA):∃od,h.get? dx=some od/\∀name,PySem.W.lookIn name od=some (mA name):=by
 obtain⟨o,es,ep,d,hd,hk,_,hm⟩:=n;refine⟨o,d,λname=>?_⟩;have e:=hm name;unfold nsFind findBy at e;rw[<-Array.find?_toList]at e;unfold PySem.W.lookIn;rw[hd];dsimp only;split
 ·rename_i y q;rw[q]at e;exact congrArg some e
 ·rename_i q;rw[q]at e;have a:es.toList.any (·.refKey)=false:=by
   rw[List.any_eq_false];intro y hy;obtain⟨z,t,b⟩:=hk y (Array.mem_toList_iff.mp hy);simp[DictEntry.refKey,b]
  have c:¬es.toList.any (·.refKey)=true:=by rw[a];exact zP9
  rw[if_neg c];exact congrArg some e
theorem mL.look {h:Heap}{x dx C:Addr}{mA:Str->Option Value}(I:mL h x dx C mA):∃od,PySem.W.InstAt h x (PySem.W.instObj C dx) C (some od)/\∀name,PySem.W.lookIn name od=some (mA name):=
 let⟨od,ho,hl⟩:=gS I.ns
 ⟨od,⟨I.obj,rfl,rfl,ho⟩,hl⟩
section
variable {prog:Program}{w:World}{A:Around}{E:Value->Shared->Prop}{s:Shared}{K:PySem.W.Frag}{x dx C f:Addr}{mA:Str->Option Value}{name:Str}{v:Value}
theorem get_map {expr:Bool}{Q:Value->Shared->Prop}(X:K.In s.heap)(I:mL s.heap x dx C mA)(hg:PySem.W.plainGet K C name=true)(d:PySem.W.hasDictIn K C=true)
  (ha:PySem.W.findIn K (.ref C) name=some none) (c:mA name=some v) (a:PySem.W.handedIn v=true) (h:Q v {s with toks:=s.toks+1}):
  wpAny (model prog w) A (getAttr (.ref x) name expr) Q E s:=by
 obtain⟨od,J,b⟩:=I.look;exact PySem.W.get_value X J (z89 hg).1 (PySem.W.findObj_own d ha rfl (by rw[b,c])) a h
theorem cG {pl:Sem Bool}{Q:Value×List Value->Shared->Prop}(X:K.In s.heap)(I:mL s.heap x dx C mA)(hg:PySem.W.plainGet K C name=true)
  (hf:PySem.W.findIn K (.ref C) name=some (some (.ref f))) (b:PySem.W.isFn K (.ref f)=true) (c:mA name=none) (h:Q (.ref f,[.ref x]) s):
  wpAny (model prog w) A (getMethod (.ref x) name pl) Q E s:=by
 obtain⟨od,J,a⟩:=I.look;exact PySem.W.method_fn X J (z89 hg).1 (z89 hg).2 hf (z48.mp b) (by show(PySem.W.lookIn name od).map (·.isSome)=some false;rw[a,c];rfl) h
theorem aG {ns:List Str}{Q:Unit->Shared->Prop}(X:K.In s.heap)(I:mL s.heap x dx C mA)
  (l:PySem.W.findIn K (.ref C) "__setattr__"=some (some (.builtin "object.__setattr__"))) (q:PySem.W.plainOver K C=true) (m:PySem.W.takerIn K C name=some none) (p:PySem.W.hasDictIn K C=true)
  (hw:PySem.Within mA ns) (k:ns.length<=sizeLine)
  (h:∀h',mL h' x dx C (λy=>if y=name then some v else mA y)->Heap.SameBut dx s.heap h'->Q () {s with heap:=h',toks:=s.toks+2}):
  wpAny (model prog w) A (setAttr (.ref x) name v) Q E s:=by
 obtain⟨od,J,z⟩:=I.look;refine PySem.W.set_plain X J l (PySem.W.osa_open (s:={s with toks:=s.toks+1}) (r:=none) X J q m λb=>?_);obtain⟨cd,o,e⟩:=PySem.W.any_some p;have t:s.heap.get? x=some ⟨.ref C,some dx,.plain,#[]⟩:=I.obj;refine zM8 (zN1 (zM8 (zM8 (wpAny_loadPart t (zM8 (PySem.W.Looks.here (s:={s with toks:=s.toks+1}) (PySem.W.looks_clsIn X o) ?_))))));rw[e];refine zN1 (a:=some dx) (zM8 (zN1 (zM8 ?_)));refine wpAny_nsSet1 (s:={s with toks:=s.toks+1}) I.ns λh' d c=>?_;obtain⟨oD,n,u,g,i,j⟩:=d.count (PySem.Within.cons name v hw);refine zM8 (wpAny_lookBehind g (by rw[i];exact pastItsLine_dict (zO0 j (by rw[zQ2];exact Nat.add_le_add k (zN5 _)))) ?_);exact zN1 (h _ ⟨(c.2 _ (zS3 I.ne)).trans I.obj,d,I.ne⟩ c)
theorem cJ {R:Result->Shared->Prop}{vs:List Value}{kw:List (Str×Value)}(X:K.In s.heap)(hm:PySem.W.makesIn K C=true)
  (hi:PySem.W.findIn K (.ref C) "__init__"=some (some (.ref f))) (hf:PySem.W.typeIn K (.ref f)=some (.type "function"))
  (h:codeAny (model prog w) (A.under (.builtin "type.__call__" ⟨.ref C::vs,kw⟩)) (.call (.ref f) ⟨.ref (s.heap.objs.size+1)::vs,kw⟩) (PySem.W.InitBack (s.heap.objs.size+1) R)
   {s with heap:=(s.heap.push PySem.W.emptyDict).push (PySem.W.instObj C s.heap.objs.size)}):
  codeAny (model prog w) A (.call (.ref C) ⟨vs,kw⟩) R s:=by
 obtain⟨a,g,d,t,os⟩:=s;exact PySem.W.make_core (PySem.W.makes_of X hm) (PySem.W.looks_findIn X hi) (λself=>PySem.W.bind_fn X self hf) (.inl rfl) h
end
def xA (f:Str)(v:V):List (Str×V)->List (Str×V)
 |[]=>[(f,v)]
 |(g,x)::r=>if g=f then(g,v)::r else(g,x)::xA f v r
theorem uZ (f g:Str)(v:V):∀fs:List (Str×V),(xA f v fs).lookup g=if g=f then some v else fs.lookup g
 |[]=>by
  show List.lookup g [(f,v)]=_;by_cases h:g=f
  ·have hb:(g == f)=true:=z48.mpr h;simp only[List.lookup,hb,if_pos h]
  ·have hb:(g == f)=false:=zZ9.mpr h;simp only[List.lookup,hb,if_neg h]
 |(k,x)::r=>by
  have a:=uZ f g v r;rw[show xA f v ((k,x)::r)=(if k=f then(k,v)::r else(k,x)::xA f v r)from rfl];by_cases hk:k=f
  ·rw[if_pos hk];by_cases h:g=k
   ·have hb:(g == k)=true:=z48.mpr h;simp only[List.lookup,hb,if_pos (h.trans hk)]
   ·have hb:(g == k)=false:=zZ9.mpr h;simp only[List.lookup,hb,if_neg (λe:g=f=>h (e.trans hk.symm))]
  ·rw[if_neg hk];by_cases h:g=k
   ·have hb:(g == k)=true:=z48.mpr h;simp only[List.lookup,hb,if_neg (λe:g=f=>hk (h.symm.trans e))]
   ·have hb:(g == k)=false:=zZ9.mpr h;simp only[List.lookup,hb];exact a
theorem uK (f:Str)(v:V):∀fs:List (Str×V),f∈(xA f v fs).map (·.1)/\∀g,g∈fs.map (·.1)->g∈(xA f v fs).map (·.1)
 |[]=>⟨by simp[xA],λg h=>by simp at h⟩
 |(k,x)::r=>by
  obtain⟨i1,i2⟩:=uK f v r;rw[show xA f v ((k,x)::r)=(if k=f then(k,v)::r else(k,x)::xA f v r)from rfl];by_cases hk:k=f
  ·rw[if_pos hk];subst hk;exact⟨by simp,λg h=>by simpa using h⟩
  ·rw[if_neg hk];refine⟨?_,λg h=>?_⟩
   ·rw[zR6];exact zN7 _ i1
   ·rw[zR6]at h ⊢;rcases zN6.mp h with e|e
    ·exact zN6.mpr (.inl e)
    ·exact zN7 _ (i2 g e)
theorem tE (f:Str)(v:V):∀fs:List (Str×V),(xA f v fs).length<=fs.length+1
 |[]=>by simp[xA]
 |(k,x)::r=>by
  have a:=tE f v r;rw[show xA f v ((k,x)::r)=(if k=f then(k,v)::r else(k,x)::xA f v r)from rfl];by_cases hk:k=f
  ·rw[if_pos hk,zQ2,zQ2];exact zP2 _ _
  ·rw[if_neg hk,zQ2,zQ2];exact Nat.add_le_add a (zN5 _)
theorem vp.some_of {v:V}{o:Option Value}(r:vp (some v) o):∃u,o=some u/\RelV v u:=by
 cases o with
 |none=>exact(show False from r).elim
 |some u=>exact⟨u,rfl,r⟩
theorem vp.none_of {o:Option Value}(r:vp none o):o=none:=by
 cases o with
 |none=>rfl
 |some u=>exact(show False from r).elim
theorem gD {v:V}{u:Value}(r:RelV v u):PySem.W.handedIn u=true:=by
 cases v with
 |non=>cases(show u=Value.none from r);rfl
 |bl b=>cases(show u=Value.bool b from r);rfl
 |int i=>obtain⟨t,e⟩:=(show ∃t,u=Value.int i t from r);cases e;rfl
 |str x=>obtain⟨t,e⟩:=(show ∃t,u=Value.str x t from r);cases e;rfl
 |byt b=>obtain⟨t,e⟩:=(show ∃t,u=Value.bytes b t from r);cases e;rfl
 |flt b=>obtain⟨t,e⟩:=(show ∃t,u=Value.float b t from r);cases e;rfl
 |ref a=>cases(show u=Value.ref a from r);rfl
 |ty n=>cases(show u=Value.type n from r);rfl
section
variable {P:Program}{w:World}{H H':Hp}{h h':Heap}{a C dx:Addr}{fs fs':List (Str×V)}
theorem tR (hok:HOk P w H h)(e:H a=some (.ins C dx fs)):∃mA,mL h a dx C mA/\(∀f,vp (fs.lookup f) (mA f))/\PySem.Within mA (fs.map (·.1))/\fs.length<=1000/\H dx=some (.own a):=by
 obtain⟨d,z,ne,ob,mA,n,r,q⟩:=(show zT P w H h a (.ins C dx fs)from hok a _ e);exact⟨mA,⟨ob,n,ne⟩,r,q,z,d⟩
end
structure Cls (K:PySem.W.Frag)(C:Addr):Prop where
 pg:PySem.W.plainGet K C Str.empty=true
 hd:PySem.W.hasDictIn K C=true
 po:PySem.W.plainOver K C=true
 sa:PySem.W.findIn K (.ref C) "__setattr__"=some (some (.builtin "object.__setattr__"))
theorem Cls.get {K:PySem.W.Frag}{C:Addr}(c:Cls K C)(f:Str):PySem.W.plainGet K C f=true:=c.pg
def yv (K:PySem.W.Frag)(C:Addr)(f:Str):Prop:=PySem.W.findIn K (.ref C) f=some none
theorem yv.taker {K:PySem.W.Frag}{C:Addr}{f:Str}(n:yv K C f):PySem.W.takerIn K C f=some none:=by
 unfold PySem.W.takerIn;rw[show PySem.W.findIn K (.ref C) f=some none from n];rfl
structure Meth (K:PySem.W.Frag)(C:Addr)(m:Str)(f:Addr):Prop where
 at_:PySem.W.findIn K (.ref C) m=some (some (.ref f))
 fn:PySem.W.isFn K (.ref f)=true
 kp:PySem.W.keepIn K (.ref f)=true
section
variable {X:Cx}{pins:List (Addr×Obj)}{σ:St}{H:Hp}{s:Shared}{a C dx:Addr}{fs:List (Str×V)}{f:Str}{v:V}{A:Around}{E:Value->Shared->Prop}
theorem lW {b:Bool}{Q:Value->Shared->Prop}(I:Inv X pins σ H s)(e:H a=some (.ins C dx fs))(c:Cls X.K C)(n:yv X.K C f)(l:fs.lookup f=some v)
  (h:∀u s',Inv X pins σ H s'->RelV v u->Q u s'):wpAny (model X.prog X.w) A (getAttr (.ref a) f b) Q E s:=by
 obtain⟨mA,O,r,_,_,_⟩:=tR I.hok e;obtain⟨u,g,d⟩:=vp.some_of (v:=v) (o:=mA f) (by rw[<-l];exact r f);exact get_map I.kIn O (c.get f) c.hd n g (gD d) (h u _ (I.tok _) d)
theorem vG {m:Str}{g:Addr}{pl:Sem Bool}{Q:Value×List Value->Shared->Prop}(I:Inv X pins σ H s)(e:H a=some (.ins C dx fs))(c:Cls X.K C)(k:Meth X.K C m g)(l:fs.lookup m=none)
  (h:Q (.ref g,[.ref a]) s):wpAny (model X.prog X.w) A (getMethod (.ref a) m pl) Q E s:=by
 obtain⟨mA,O,r,_,_,_⟩:=tR I.hok e;have hn:mA m=none:=vp.none_of (by rw[<-l];exact r m);exact cG I.kIn O (c.get m) k.at_ k.fn hn h
theorem lJ {y:V}{u:Value}{Q:Unit->Shared->Prop}(I:Inv X pins σ H s)(e:H a=some (.ins C dx fs))(c:Cls X.K C)(n:yv X.K C f)(l:fs.length<1000)(k:RelV y u)
  (h:∀s',Inv X pins σ (upd H a (.ins C dx (xA f y fs))) s'->Q () s'):wpAny (model X.prog X.w) A (setAttr (.ref a) f u) Q E s:=by
 obtain⟨mA,O,r,j,_,i⟩:=tR I.hok e;have hz:(fs.map (·.1)).length<=sizeLine:=by rw[zN0,zT1];lia
 refine aG I.kIn O c.sa c.po n.taker c.hd j hz λh' d sb=>h _ ?_;have hd:∃o,h'.get? dx=some o:=let⟨o,_,_,e',_⟩:=d.ns;⟨o,e'⟩;refine I.write (x:=a) (e:=dx) (by rw[e];exact True.intro) (.inr i) (λb q hb z=>(sb.2 b hb).trans z) hd ?_;refine⟨by rw[zj O.ne];exact i,?_,O.ne,d.obj,_,d.ns,λg=>?_,λg hg=>?_⟩
 ·have:=tE f y fs;exact zO0 this l
 ·show vp ((xA f y fs).lookup g) (if g=f then some u else mA g);rw[uZ];by_cases q:g=f
  ·rw[if_pos q,if_pos q];exact k
  ·rw[if_neg q,if_neg q];exact r g
 ·by_cases q:g=f
  ·rw[q];exact(uK f y fs).1
  ·refine(uK f y fs).2 g (j g λz=>hg ?_);show(if g=f then some u else mA g)=none;rw[if_neg q];exact z
theorem Inv.made (I:Inv X pins σ H s):Inv X pins σ (upd (upd H s.heap.objs.size (.own (s.heap.objs.size+1))) (s.heap.objs.size+1) (.ins C s.heap.objs.size []))
  {s with heap:=(s.heap.push PySem.W.emptyDict).push (PySem.W.instObj C s.heap.objs.size)}:=by
 have e1:(s.heap.push PySem.W.emptyDict).get? s.heap.objs.size=some PySem.W.emptyDict:=zO2 s.heap rfl;have c:((s.heap.push PySem.W.emptyDict).push (PySem.W.instObj C s.heap.objs.size)).get? (s.heap.objs.size+1)=some (PySem.W.instObj C s.heap.objs.size):=by
  have:=zO2 (s.heap.push PySem.W.emptyDict) (o:=PySem.W.instObj C s.heap.objs.size) rfl
  rwa [zV5]at this
 have d:(s.heap.push PySem.W.emptyDict).Ns s.heap.objs.size (λ_=>none):=⟨PySem.W.emptyDict,#[],_,e1,rfl,(λe he=>absurd he (by simp)),λ_=>rfl⟩;have g:=I.laid (a:=s.heap.objs.size) (o:=.own (s.heap.objs.size+1)) (h':=s.heap.push PySem.W.emptyDict) (t':=s.toks) (λb u q=>zM9 _ q) (zN5 _) ⟨_,e1⟩;refine g.laid (a:=s.heap.objs.size+1) (o:=.ins C s.heap.objs.size []) (t':=s.toks) (λb u q=>zM9 _ q) (zO9 (zV5 _ _)) ?_;have ne:s.heap.objs.size≠s.heap.objs.size+1:=zP1 (zT3 _);refine⟨by rw[zj ne,zm],zO5 _,ne,c,λ_=>none,(Heap.Ns1.of_empty d).at λo q=>zM9 _ q,λ_=>True.intro,λy hy=>absurd rfl hy⟩
theorem za3 {prog:Program}{w:World}{env:Env}{e:Expr}{f:Str}{pos:Pos}{s:Shared}{Q:Value->Shared->Prop}(hb:attributeBase e f env (eval e env)=eval e env)
  (h:wpAny (model prog w) A (eval e env) (λo b=>wpAny (model prog w) A (getAttr o f true) Q E b) E s):wpAny (model prog w) A (eval (.Attribute e f pos) env) Q E s:=
 Attribute_any_ h (by rw[arm_eval_Attribute,hb])
end
def zK2 (K:PySem.W.Frag)(b:TE)(f:Str):TE:=λσ H Q=>b σ H λx H1=>∃a C dx fs v,x=.ref a/\H1 a=some (.ins C dx fs)/\Cls K C/\yv K C f/\fs.lookup f=some v/\Q v H1
def zK4 (K:PySem.W.Frag)(c d:TE)(f:Str):TS:=λD σ H=>d σ H λy H1=>c σ H1 λx b=>∃a C dx fs,x=.ref a/\b a=some (.ins C dx fs)/\Cls K C/\yv K C f/\fs.length<1000/\
 D.nx σ (upd b a (.ins C dx (xA f y fs)))
section
variable {X:Cx}{o e value:Expr}{f:Str}{pos pos' tpos:Pos}{ta tv:TE}
theorem zv1 (he:PE X e ta)(hb:attributeBase e f X.env (eval e X.env)=eval e X.env):PE X (.Attribute e f pos) (zK2 X.K ta f):=by
 intro pins s σ H Q I h;refine za3 hb (thn (he pins s σ H _ I h) λu s1 b=>?_);obtain⟨x,H1,j,i,a,C,dx,fs,v,ex,d,c,n,l,q⟩:=b;subst ex;obtain rfl:u=Value.ref a:=i;exact lW j d c n l λm s2 g k=>⟨v,H1,g,k,q⟩
theorem pe (ha:PE X o ta)(j:PE X value tv)(b:swapsWith value (some (.Attribute o f pos')) pos.line X.env=pure false):PS X (.Assign [.Attribute o f pos'] value pos) (zK4 X.K ta tv f):=by
 intro pins s σ H D I h;refine plainObj_wpAny_Assign_Attribute (thn (j pins s σ H _ I h) λu s1 ⟨y,H1,m,t,q⟩=>thn (ha pins s1 σ H1 _ m q) λr s2 ⟨x,v,i,k,a,C,dx,fs,ex,g,c,n,l,d⟩=>?_) b;subst ex;obtain rfl:r=Value.ref a:=k;exact lJ i g c n l t λs3 p=>⟨σ,_,p,d⟩
theorem zn1 {pl:Sem Bool}{m:Str}{apos:Pos}{args:List Expr}{pins:List (Addr×Obj)}{s:Shared}{σ:St}{H:Hp}{Q:Value->Shared->Prop}{i:TE}(he:PE X e i)(I:Inv X pins σ H s)
  (h:i σ H λx H1=>∃a C dx fs g,x=.ref a/\H1 a=some (.ins C dx fs)/\Cls X.K C/\Meth X.K C m g/\fs.lookup m=none/\
   ∀s1,Inv X pins σ H1 s1->wpAny (model X.prog X.w) X.A (callWith pos (.ref g) [.ref a] (backTo pos (starEach args X.env)) (backToKw pos (keywordEach [] X.env))) Q X.xe s1)
  (n:eval (.Call (.Attribute e m apos) args [] pos) X.env=(do
   let ov <-eval e X.env
   standAt apos.atName
   let(f,first) <-holding [ov] (getMethod ov m pl)
   callWith pos f first (backTo pos (starEach args X.env)) (backToKw pos (keywordEach [] X.env)))):
  wpAny (model X.prog X.w) X.A (eval (.Call (.Attribute e m apos) args [] pos) X.env) Q X.xe s:=by
 refine z78 (pl:=pl) (thn (he pins s σ H _ I h) λu s1 b=>?_) n;obtain⟨x,H1,d,p,a,C,dx,fs,g,ex,j,c,k,l,q⟩:=b;subst ex;obtain rfl:u=Value.ref a:=p;exact vG d j c k l (q s1 d)
end
section
variable {X:Cx}{pins:List (Addr×Obj)}{σ:St}{H:Hp}{s:Shared}{A:Around}{E:Value->Shared->Prop}{Q:Value->Shared->Prop}{c:Value}{b:Bool}
inductive uk (K:PySem.W.Frag)(H:Hp):V->Value->Prop where
 |non:uk K H .non (.type "NoneType")
 |bl (x:Bool):uk K H (.bl x) (.type "bool")
 |int (i:Int):uk K H (.int i) (.type "int")
 |str (x:Str):uk K H (.str x) (.type "str")
 |flt (x:UInt64):uk K H (.flt x) (.type "float")
 |lst {a:Addr}{xs:List V} (e:H a=some (.lst xs)):uk K H (.ref a) (.type "list")
 |frz {a:Addr}{o:Obj}{xs:List V} (e:H a=some (.frz o (.lst xs))):uk K H (.ref a) (.type "list")
 |tup {a:Addr}{xs:List V} (e:H a=some (.tup xs)):uk K H (.ref a) (.type "tuple")
 |dK {a:Addr}{kvs:List (Key×V)} (e:H a=some (.dK kvs)):uk K H (.ref a) (.type "dict")
 |dT {a:Addr}{kvs:List (List Key×V)} (e:H a=some (.dT kvs)):uk K H (.ref a) (.type "dict")
 |ins {a C dx:Addr}{fs:List (Str×V)} (e:H a=some (.ins C dx fs)) (cl:Cls K C) (ha:PySem.W.findIn K (.ref C) "__class__"=some (some (.builtin "object.__class__")))
   (hn:PySem.W.specialIn K (.builtin "object.__class__") "__get__"=some (some (.builtin "getset_descriptor.__get__"))) (htk:PySem.W.takesIn K (.builtin "object.__class__")=some true)
   (hm:PySem.W.mroIn K C (.type "object")=some true):uk K H (.ref a) (.ref C)
theorem gX {x:V}{u t:Value}(I:Inv X pins σ H s)(d:RelV x u)(ty:uk X.K H x t)(e:PySem.W.kitOne X.K t c=some b)(h:∀tk,Q (.bool b) {s with toks:=tk}):
  wpAny (model X.prog X.w) A (call (.builtin "isinstance") [u,c]) Q E s:=by
 cases ty with
 |non=>cases(show u=Value.none from d);exact zV7 PySem.W.kitx_none I.kIn True.intro e (λz=>nomatch z) h
 |bl y=>cases(show u=Value.bool y from d);exact zV7 PySem.W.kitx_bool I.kIn True.intro e (λz=>nomatch z) h
 |int i=>obtain⟨t,q⟩:=(show ∃t,u=Value.int i t from d);cases q;exact zV7 PySem.W.kitx_int I.kIn True.intro e (λz=>nomatch z) h
 |str y=>obtain⟨t,q⟩:=(show ∃t,u=Value.str y t from d);cases q;exact zV7 PySem.W.kitx_str I.kIn True.intro e (λz=>nomatch z) h
 |flt y=>obtain⟨t,q⟩:=(show ∃t,u=Value.float y t from d);cases q;exact zV7 PySem.W.kitx_float I.kIn True.intro e (λz=>nomatch z) h
 |@lst a xs ea=>
  cases(show u=Value.ref a from d);obtain⟨_,_,n,_,f⟩:=(show zT X.prog X.w H s.heap a (.lst xs)from I.hok a _ ea);exact zV7 PySem.W.kitx_list I.kIn ⟨_,f,rfl⟩ e (λz=>nomatch z) h
 |@frz a ob xs ea=>
  cases(show u=Value.ref a from d);obtain⟨_,_,_,n,_,f⟩:=(show zT X.prog X.w H s.heap a (.frz ob (.lst xs))from I.hok a _ ea);exact zV7 PySem.W.kitx_list I.kIn ⟨_,f,rfl⟩ e (λz=>nomatch z) h
 |@tup a xs ea=>
  cases(show u=Value.ref a from d);obtain⟨_,_,_,p⟩:=(show zT X.prog X.w H s.heap a (.tup xs)from I.hok a _ ea);obtain⟨o,f,g,_⟩:=p;exact zV7 PySem.W.kitx_tuple I.kIn ⟨o,f,g⟩ e (λz=>nomatch z) h
 |@dK a kvs ea=>
  cases(show u=Value.ref a from d);obtain⟨_,_,vs,_,p⟩:=(show zT X.prog X.w H s.heap a (.dK kvs)from I.hok a _ ea);obtain⟨o,es,ep,f,g,_⟩:=p;exact zV7 PySem.W.kitx_dict I.kIn ⟨o,f,g.1⟩ e (λz=>nomatch z) h
 |@dT a kvs ea=>
  cases(show u=Value.ref a from d);obtain⟨_,_,xs,_,o,es,ep,f,g,_⟩:=(show zT X.prog X.w H s.heap a (.dT kvs)from I.hok a _ ea);exact zV7 PySem.W.kitx_dict I.kIn ⟨o,f,g.1⟩ e (λz=>nomatch z) h
 |@ins a C dx fs ea cl ha hn htk hm=>
  cases(show u=Value.ref a from d);obtain⟨mA,O,_⟩:=tR I.hok ea;obtain⟨od,J,_⟩:=O.look;exact zV7 (PySem.W.kitx_own (cl.get _) cl.hd ha hn htk hm) I.kIn J e (λz=>nomatch z) h
end
structure zN (k:Nat)(A:Around):Prop where
 hd:A.handled=none
 dp:A.depth+3*k+5<recursionLimit
 un:A.units+16*k+200<cLine
 gd:A.guards=some []
theorem zN.mono {j k:Nat}{A:Around}(r:zN k A)(h:j<=k):zN j A:=⟨r.hd,by have:=r.dp;lia,by have:=r.un;lia,r.gd⟩
theorem zN.deeper {k:Nat}{A:Around}(r:zN (k+1) A)(env:Env):zN k (A.deeper env):=
 ⟨r.hd,by have:=r.dp;show A.depth+1+3*k+5<_;exact zg8 this,by have:=r.un;show A.units+3+16*k+200<_;lia,r.gd⟩
theorem zN.in1 {k:Nat}{A:Around}(r:zN (k+1) A):zN k A.in1:=
 ⟨r.hd,by have:=r.dp;show A.depth+3*k+5<_;lia,by have:=r.un;show A.units+1+16*k+200<_;exact zg9 this,r.gd⟩
theorem mK {A:Around}{C:Addr}{us:List Value}{kw:List (Str×Value)}:(A.under (.builtin "type.__call__" ⟨.ref C::us,kw⟩)).depth=A.depth+1:=by
 first|rfl|simp[Around.under,Code.weight,Code.isCreation,Code.isGuard,Code.isCaller,Code.frames,Code.isFrame,guardIds]
theorem lF {A:Around}{C:Addr}{us:List Value}{kw:List (Str×Value)}:(A.under (.builtin "type.__call__" ⟨.ref C::us,kw⟩)).units=A.units+1:=by
 first|rfl|simp[Around.under,Code.cUnits,Code.frames,Code.isFrame]
theorem nu {A:Around}{C:Addr}{us:List Value}{kw:List (Str×Value)}:(A.under (.builtin "type.__call__" ⟨.ref C::us,kw⟩)).guards=A.guards:=by
 first|rfl|simp[Around.under,Code.guards,Code.isGuard,guardIds,pushGuards]
theorem zN.make {k:Nat}{A:Around}(r:zN (k+1) A)(C:Addr)(us:List Value)(kw:List (Str×Value)):zN k (A.under (.builtin "type.__call__" ⟨.ref C::us,kw⟩)):=
 ⟨r.hd,by have:=r.dp;rw[mK];exact zg8 this,by have:=r.un;rw[lF];exact zg9 this,(nu (A:=A)).trans r.gd⟩
theorem zN.depth {k:Nat}{A:Around}(r:zN k A):A.depth<recursionLimit:=by have:=r.dp;exact zP5 (zP2 _ _) (zP5 (zP2 _ _) this)
theorem zN.units {k:Nat}{A:Around}(r:zN k A):A.units+64<cLine:=by have:=r.un;lia
def zD5 :TA:=λ_ H Q=>Q [] H
def zz6 (b:TE)(tr:TA):TA:=λσ H Q=>b σ H λx H1=>tr σ H1 λxs a=>Q (x::xs) a
section
variable {X:Cx}{e:Expr}{es:List Expr}{te:TE}{t:TA}{pos:Pos}
theorem yh :PA X [] zD5:=λ_ _ _ _ H Q I h=>Calls.spliced_nil ⟨[],H,I,.nil,h⟩
theorem zA (ha:PE X e te)(hr:PA X es t)(c:starEach (e::es) X.env=(false,eval e X.env)::starEach es X.env:=by rfl):PA X (e::es) (zz6 te t):=by
 intro pos pins s σ H Q I h;rw[c];show wpAny _ _ (spliced ((false,eval e X.env)::backTo pos (starEach es X.env))) _ _ s;refine Calls.spliced_cons (thn (ha pins s σ H _ I h) λu s1 b=>?_);obtain⟨x,H1,i,k,l⟩:=b;exact thn (hr pos pins s1 σ H1 _ i l) λus s2 a=>by obtain⟨xs,d,g,j,f⟩:=a;exact⟨x::xs,d,g,.cons k j,f⟩
def zI9 (t:TA):TE:=λσ H Q=>t σ H λxs H1=>xs.length<=sizeLine/\∀p,H1 p=none->Q (.ref p) (upd H1 p (.tup xs))
def zM2 (t:TA):TE:=λσ H Q=>t σ H λxs H1=>xs.length<=sizeLine/\∀p,H1 p=none->Q (.ref p) (upd H1 p (.lst xs))
theorem fM {x1}(h:PA X es t):PE X (.Tuple es x1 pos) (zI9 t):=by
 intro pins s σ H Q I hq;refine wpAny_Tuple_spliced (thn (h pos pins s σ H _ I hq) λus s1 ⟨xs,H1,a,r,z,q⟩=>⟨by rw[<-r.length];exact z,?_⟩);have hf:H1 s1.heap.objs.size=none:=a.hok.fresh (zN5 _);refine⟨.ref s1.heap.objs.size,upd H1 s1.heap.objs.size (.tup xs),a.laid (t':=s1.toks) (λb u e=>zM9 _ e) (zN5 _) ?_,rfl,q _ hf⟩;exact⟨z,us,r,⟨_,zO2 _ rfl,rfl,_,rfl⟩⟩
theorem cE (h:PA X es t):PE X (.List es pos) (zM2 t):=by
 intro pins s σ H Q I hq;refine wpAny_List_spliced (thn (h pos pins s σ H _ I hq) λus s1 ⟨xs,H1,a,r,z,q⟩=>⟨by rw[<-r.length];exact z,?_⟩);have hf:H1 s1.heap.objs.size=none:=a.hok.fresh (zN5 _);refine⟨.ref s1.heap.objs.size,upd H1 s1.heap.objs.size (.lst xs),a.laid (t':=s1.toks) (λb u e=>zM9 _ e) (zN5 _) ?_,rfl,q _ hf⟩;exact⟨z,us,0,r,zO2 _ rfl⟩
end
abbrev Sp :=List V->Hp->VK->XK->Prop
abbrev CXT :=List Env->Hp->Shared->XK->Value->Shared->Prop
structure uR (P:Program)(w:World)(K:PySem.W.Frag)(mg:Str->Option Value)(base:Heap)(A:Around)(outer:List Env)(s:Shared)(H:Hp):Prop where
 frames:A.frames=some outer
 mod:Mod K mg base
 bs:∀b o,base.get? b=some o->s.heap.get? b=some o/\H b=none
 bsz:base.objs.size<=s.heap.objs.size
 funs:s.heap.FunFrames base outer
 frf:∀b∈frs outer,H b=none
 hok:HOk P w H s.heap
 bare:AllBare s.gens
def CE (outer:List Env)(P:Program)(w:World)(H:Hp)(s:Shared)(Q:VK)(u:Value)(s':Shared):Prop:=
 ∃v H',s'.os=s.os/\AllBare s'.gens/\Un (frs outer) [] H H' s.heap s'.heap/\HOk P w H' s'.heap/\RelV v u/\Q v H'
def CR (CX:CXT)(outer:List Env)(P:Program)(w:World)(H:Hp)(s:Shared)(Q:VK)(E:XK)(r:Result)(s':Shared):Prop:=
 match r with
 |.ok (.ret u)=>CE outer P w H s Q u s'
 |.ok _=>False
 |.error e=>CX outer H s E e s'
structure yK (P:Program)(w:World)(K:PySem.W.Frag)(mg:Str->Option Value)(base:Heap)(CX:CXT)(k:Nat)(f:Addr)(fd:FuncData)(ps:List Str)(sp:Sp):Prop where
 len:∀vs H Q E,sp vs H Q E->vs.length=ps.length
 run:∀(A:Around) (outer:List Env) (s:Shared) (H:Hp) (args:Args) (us:List Value) (vs:List V) (Q:VK) (E:XK),zN k A->uR P w K mg base A outer s H->BindsTo s fd args (ps.zip us)->Vals vs us->sp vs H Q E->
  codeAny (model P w) A (.call (.ref f) args) (CR CX outer P w H s Q E) s
theorem yK.imp {P:Program}{w:World}{K:PySem.W.Frag}{mg:Str->Option Value}{base:Heap}{CX:CXT}{k:Nat}{f:Addr}{fd:FuncData}{ps:List Str}{sp a:Sp}(F:yK P w K mg base CX k f fd ps sp)
  (h:∀vs H Q E,a vs H Q E->sp vs H Q E):yK P w K mg base CX k f fd ps a:=
 ⟨λvs H Q E q=>F.len vs H Q E (h _ _ _ _ q),λA outer s H args us vs Q E hr he hb c b=>F.run A outer s H args us vs Q E hr he hb c (h _ _ _ _ b)⟩
theorem uR.make {P:Program}{w:World}{K:PySem.W.Frag}{mg:Str->Option Value}{base:Heap}{A:Around}{outer:List Env}{s:Shared}{H:Hp}(e:uR P w K mg base A outer s H)(C:Addr)(us:List Value)(kw:List (Str×Value)):
  uR P w K mg base (A.under (.builtin "type.__call__" ⟨.ref C::us,kw⟩)) outer s H:=⟨by first|exact e.frames|(simpa[Around.under,Code.envs,Code.isFrame,pushEnvs]using e.frames),e.mod,e.bs,e.bsz,e.funs,e.frf,e.hok,e.bare⟩
theorem uR.in1 {P:Program}{w:World}{K:PySem.W.Frag}{mg:Str->Option Value}{base:Heap}{A:Around}{outer:List Env}{s:Shared}{H:Hp}(e:uR P w K mg base A outer s H):
  uR P w K mg base A.in1 outer s H:=⟨e.frames,e.mod,e.bs,e.bsz,e.funs,e.frf,e.hok,e.bare⟩
section
variable {X:Cx}{pins:List (Addr×Obj)}{σ:St}{H:Hp}{s s':Shared}
theorem Inv.env0 (I:Inv X pins σ H s):uR X.prog X.w X.K X.mg X.base X.A X.stack s H:=
 ⟨I.ok.frames,I.ok.mod,I.bs,zO0 I.ok.bsz I.sz,I.stack,I.stkFree,I.hok,I.bare⟩
theorem Inv.after {Q:VK}{u:Value}(I:Inv X pins σ H s)(h:CE X.stack X.prog X.w H s Q u s'):EP X pins σ Q u s':=by
 obtain⟨v,H',os,bare,un,hok,r,q⟩:=h;obtain⟨c,g,d,t,a⟩:=s';obtain rfl:a=s.os:=os;exact⟨v,H',I.call (h':=c) (g':=g) (d':=d) (t':=t) (ch:=[]) un hok bare (λb z=>absurd z (by simp)),r,q⟩
end
def zB6 (sp:Sp)(dvs:List V)(E:XK)(t:TA):TE:=λσ H Q=>t σ H λvs H1=>sp (vs++dvs) H1 Q E
def zj3 (C:Addr)(m:Str)(sp:Sp)(dvs:List V)(E:XK)(c:TE)(t:TA):TE:=λσ H Q=>c σ H λx H1=>∃a dx fs,x=.ref a/\H1 a=some (.ins C dx fs)/\fs.lookup m=none/\
 t σ H1 λvs b=>sp (x::(vs++dvs)) b Q E
def zI1 (C:Addr)(sp:Sp)(dvs:List V)(E:XK)(t:TA):TE:=λσ H Q=>t σ H λvs H1=>∀x dx,H1 x=none->H1 dx=none->dx≠x->
 sp (.ref x::(vs++dvs)) (upd (upd H1 dx (.own x)) x (.ins C dx [])) (λv a=>v=.non/\Q (.ref x) a) E
def Binds (K:PySem.W.Frag)(fd:FuncData)(ps:List Str)(ds:List Value):Prop:=
 ∀(s:Shared) (us:List Value),K.In s.heap->(us++ds).length=ps.length->BindsTo s fd ⟨us,[]⟩ (ps.zip (us++ds))
theorem Binds.all {K:PySem.W.Frag}{fd:FuncData}{ps:List Str}(h:∀us:List Value,us.length=ps.length->bindArgs fd ⟨us,[]⟩=pure (ps.zip us)):Binds K fd ps []:=λs us _ a=>by
 rw[zU0]at a ⊢;exact .of_eq (h us a)
def Passes (CX:CXT)(X:Cx)(E:XK):Prop:=∀(pins:List (Addr×Obj)) (σ:St) (H:Hp) (s:Shared) (e:Value) (s':Shared),Inv X pins σ H s->CX X.stack H s E e s'->X.xe e s'
section
variable {X:Cx}{CX:CXT}{k:Nat}{f C:Addr}{fd:FuncData}{ps:List Str}{sp:Sp}{dvs:List V}{ds:List Value}{E:XK}{x m:Str}{p pos apos:Pos}{e o:Expr}{es:List Expr}{ta:TE}{t:TA}
theorem kh {pins:List (Addr×Obj)}{σ:St}{H:Hp}{s:Shared}{Q:VK}{us:List Value}{vs:List V}(F:yK X.prog X.w X.K X.mg X.base CX k f fd ps sp)(hr:zN k X.A)(hb:Binds X.K fd ps ds)(hd:Vals dvs ds)(c:Passes CX X E)
  (I:Inv X pins σ H s) (r:Vals vs us) (h:sp (vs++dvs) H Q E):wpAny (model X.prog X.w) X.A (call (.ref f) us) (EP X pins σ Q) X.xe s:=by
 have a:Vals (vs++dvs) (us++ds):=r.append hd;have b:(us++ds).length=ps.length:=by rw[<-a.length];exact F.len _ _ _ _ h
 refine wpAny_call (z44 (F.run X.A X.stack s H ⟨us,[]⟩ (us++ds) (vs++dvs) Q E hr I.env0 (hb s us I.kIn b) a h) λr s' hq=>?_);cases r with
 |error e=>exact c pins σ H s e s' I hq
 |ok d=>
  cases d with
  |ret u=>exact I.after hq
  |next=>exact False.elim hq
  |brk=>exact False.elim hq
  |cont=>exact False.elim hq
theorem jo (F:yK X.prog X.w X.K X.mg X.base CX k f fd ps sp)(hr:zN k X.A)(hg:Gl X x)(hm:X.mg x=some (.ref f))(hk:PySem.W.keepIn X.K (.ref f)=true)(hb:Binds X.K fd ps ds)(hd:Vals dvs ds)(d:Passes CX X E)
  (ha:PA X (e::es) t) (b:(x == ("__debug__":Str))=false:=by decide) (he:starEach (e::es) X.env=(false,eval e X.env)::starEach es X.env:=by rfl) (hpl:(backTo pos (starEach es X.env)).any (·.1)=false:=by rfl):
  PE X (.Call (.Name x p) (e::es) [] pos) (zB6 sp dvs E t):=by
 intro pins s σ H Q I h;refine z37 (tY I hg hm ?_ b);refine z93 (h₀:=X.base) I.ok.mod.kin hk (thn (ha pos pins s σ H _ I h) λus s1 a=>?_) he hpl;obtain⟨vs,H1,c,r,q⟩:=a;refine⟨c.kIn,?_⟩;exact kh F hr hb hd d c r q
theorem aM {pl:Sem Bool}(he:PE X o ta)(c:Cls X.K C)(hm:Meth X.K C m f)(F:yK X.prog X.w X.K X.mg X.base CX k f fd ps sp)(hr:zN k X.A)(hb:Binds X.K fd ps ds)(hd:Vals dvs ds)(v:Passes CX X E)(ha:PA X (e::es) t)
  (g:starEach (e::es) X.env=(false,eval e X.env)::starEach es X.env:=by rfl) (hpl:(backTo pos (starEach es X.env)).any (·.1)=false:=by rfl)
  (z:eval (.Call (.Attribute o m apos) (e::es) [] pos) X.env=(do
   let ov <-eval o X.env
   standAt apos.atName
   let(f,first) <-holding [ov] (getMethod ov m pl)
   callWith pos f first (backTo pos (starEach (e::es) X.env)) (backToKw pos (keywordEach [] X.env))):=by rfl):
  PE X (.Call (.Attribute o m apos) (e::es) [] pos) (zj3 C m sp dvs E ta t):=by
 intro pins s σ H Q I h;refine z78 (pl:=pl) (thn (he pins s σ H _ I h) λu s1 b=>?_) z;obtain⟨x,H1,j,B,a,dx,fs,ex,n,l,q⟩:=b;subst ex;obtain rfl:u=Value.ref a:=B;refine vG j n c hm l ?_;refine z93 (first:=[.ref a]) (h₀:=X.base) I.ok.mod.kin hm.kp (thn (ha pos pins s1 σ H1 _ j q) λus s2 d=>?_) g hpl;obtain⟨vs,D,i,r,y⟩:=d;refine⟨i.kIn,?_⟩;exact kh (us:=.ref a::us) (vs:=.ref a::vs) F hr hb hd v i (.cons rfl r) y
theorem dJ {pl:Sem Bool}(he:PE X o ta)(c:Cls X.K C)(hm:Meth X.K C m f)(F:yK X.prog X.w X.K X.mg X.base CX k f fd ps sp)(hr:zN k X.A)(hb:Binds X.K fd ps ds)(hd:Vals dvs ds)(n:Passes CX X E)
  (i:eval (.Call (.Attribute o m apos) [] [] pos) X.env=(do
   let ov <-eval o X.env
   standAt apos.atName
   let(f,first) <-holding [ov] (getMethod ov m pl)
   callWith pos f first (backTo pos (starEach [] X.env)) (backToKw pos (keywordEach [] X.env))):=by rfl):
  PE X (.Call (.Attribute o m apos) [] [] pos) (zj3 C m sp dvs E ta zD5):=by
 intro pins s σ H Q I h;refine z78 (pl:=pl) (thn (he pins s σ H _ I h) λu s1 b=>?_) i;obtain⟨x,H1,d,j,a,dx,fs,ex,g,l,q⟩:=b;subst ex;obtain rfl:u=Value.ref a:=j;refine vG d g c hm l ?_;exact PySem.W.callWith_K0 (first:=[.ref a]) d.kIn hm.kp (kh (us:=[.ref a]) (vs:=[.ref a]) F hr hb hd n d (.cons rfl .nil) q)
structure Mk (K:PySem.W.Frag)(C f:Addr):Prop where
 makes:PySem.W.makesIn K C=true
 init:PySem.W.findIn K (.ref C) "__init__"=some (some (.ref f))
 fn:PySem.W.isFn K (.ref f)=true
 kp:PySem.W.keepIn K (.ref C)=true
theorem bo {pins:List (Addr×Obj)}{σ:St}{H:Hp}{s:Shared}{Q:VK}{us:List Value}{vs:List V}(M:Mk X.K C f)(F:yK X.prog X.w X.K X.mg X.base CX k f fd ps sp)(hr:zN (k+1) X.A)(hb:Binds X.K fd ps ds)(hd:Vals dvs ds)
  (j:Passes CX X E) (I:Inv X pins σ H s) (r:Vals vs us)
  (h:∀x dx,H x=none->H dx=none->dx≠x->sp (.ref x::(vs++dvs)) (upd (upd H dx (.own x)) x (.ins C dx [])) (λv n=>v=.non/\Q (.ref x) n) E):
  wpAny (model X.prog X.w) X.A (call (.ref C) us) (EP X pins σ Q) X.xe s:=by
 have hq:=h (s.heap.objs.size+1) s.heap.objs.size (I.hok.fresh (zX8 _)) (I.hok.fresh (zN5 _)) (zP1 (zT3 _));have b:=Inv.made (C:=C) I;have c:Vals (V.ref (s.heap.objs.size+1)::(vs++dvs)) (Value.ref (s.heap.objs.size+1)::(us++ds)):=.cons rfl (r.append hd);have g:(Value.ref (s.heap.objs.size+1)::us++ds).length=ps.length:=by
  have e:=c.length;rw[F.len _ _ _ _ hq]at e;exact e.symm
 refine wpAny_call (cJ (f:=f) I.kIn M.makes M.init (z48.mp M.fn) (z44 (F.run _ X.stack _ _ ⟨Value.ref (s.heap.objs.size+1)::us,[]⟩ (Value.ref (s.heap.objs.size+1)::(us++ds)) _ _ E (hr.make C us [])
  (b.env0.make C us []) (hb _ (Value.ref (s.heap.objs.size+1)::us) b.kIn g) c hq) λr s' a=>?_))
 cases r with
 |error e=>exact j pins σ _ _ e s' b a
 |ok l=>
  cases l with
  |ret u=>
   obtain⟨v,H',i,d,ev,q⟩:=b.after a;subst ev;exact⟨d,⟨V.ref (s.heap.objs.size+1),H',i,rfl,q⟩⟩
  |next=>exact False.elim a
  |brk=>exact False.elim a
  |cont=>exact False.elim a
theorem ai (M:Mk X.K C f)(F:yK X.prog X.w X.K X.mg X.base CX k f fd ps sp)(hr:zN (k+1) X.A)(hg:Gl X x)(hm:X.mg x=some (.ref C))(hb:Binds X.K fd ps ds)(hd:Vals dvs ds)(d:Passes CX X E)
  (ha:PA X (e::es) t) (b:(x == ("__debug__":Str))=false:=by decide) (he:starEach (e::es) X.env=(false,eval e X.env)::starEach es X.env:=by rfl) (hpl:(backTo pos (starEach es X.env)).any (·.1)=false:=by rfl):
  PE X (.Call (.Name x p) (e::es) [] pos) (zI1 C sp dvs E t):=by
 intro pins s σ H Q I h;refine z37 (tY I hg hm ?_ b);refine z93 (h₀:=X.base) I.ok.mod.kin M.kp (thn (ha pos pins s σ H _ I h) λus s1 a=>?_) he hpl;obtain⟨vs,H1,c,r,q⟩:=a;refine⟨c.kIn,?_⟩;exact bo M F hr hb hd d c r q
end
section
variable {X:Cx}{CX:CXT}{k:Nat}{f C:Addr}{fd:FuncData}{ps ks:List Str}{sp:Sp}{E:XK}{x m:Str}{p pos apos kpos:Pos}{e o:Expr}{es:List Expr}{kws:List Keyword}{te ta:TE}{t tk:TA}{nm:Option Str}
variable {g:List Value->List Value->List Value}{gV:List V->List V->List V}
end
structure zW (N P:List Str)(sc:Scope):Prop where
 kind:sc.kind=.function
 co:sc.isCoroutine=false
 gen:sc.isGenerator=false
 nd:N.Nodup
 pre:N.take P.length=P
 par:∀x∈P,sc.names.lookup x=some .local\/sc.names.lookup x=some .cell
 nofree:∀y∈sc.names,y.2≠.free
theorem qB {kindOf:Str->Option NameKind}{x:Str}:∀{binds:List (Str×Value)}{m:Str->Option Value},(∀v,(x,v)∉binds)->bindL kindOf binds m x=m x
 |[],_,_=>rfl
 |(n,v)::r,m,h=>by
  unfold bindL;rw[qB λw hw=>h w (zN7 _ hw)];split
  ·have:x≠n:=by rintro rfl;exact h v zO1
   simp[this]
  ·rfl
theorem qT {kindOf:Str->Option NameKind}{x:Str}:∀{binds:List (Str×Value)}{m:Str->Option Value},(∀v,(x,v)∉binds)->bindC kindOf binds m x=m x
 |[],_,_=>rfl
 |(n,v)::r,m,h=>by
  unfold bindC;rw[qT λw hw=>h w (zN7 _ hw)];split
  ·rfl
  ·have:x≠n:=by rintro rfl;exact h v zO1
   simp[this]
theorem qD {kindOf:Str->Option NameKind}{x:Str}{v:Value}:∀{P:List Str}{vs:List Value}{i:Nat}{m:Str->Option Value},P.Nodup->P[i]?=some x->vs[i]?=some v->kindOf x=some .local->
  bindL kindOf (P.zip vs) m x=some v
 |[],_,_,_,_,h,_,_=>by simp at h
 |_::_,[],_,_,_,_,h,_=>by simp at h
 |p::P,w::vs,0,m,nd,a,b,hk=>by
  simp at a b;subst a;subst b;show bindL kindOf ((p,w)::P.zip vs) m p=_;unfold bindL;rw[qB λv c=>(z58.mp nd).1 (List.of_mem_zip c).1,if_pos hk];simp
 |p::P,w::vs,i+1,m,nd,a,b,hk=>by
  show bindL kindOf ((p,w)::P.zip vs) m x=_;unfold bindL;exact qD (i:=i) (z58.mp nd).2 (by simpa using a) (by simpa using b) hk
theorem qE {kindOf:Str->Option NameKind}{x:Str}{v:Value}:∀{P:List Str}{vs:List Value}{i:Nat}{m:Str->Option Value},P.Nodup->P[i]?=some x->vs[i]?=some v->kindOf x≠some .local->
  bindC kindOf (P.zip vs) m x=some v
 |[],_,_,_,_,h,_,_=>by simp at h
 |_::_,[],_,_,_,_,h,_=>by simp at h
 |p::P,w::vs,0,m,nd,a,b,hk=>by
  simp at a b;subst a;subst b;show bindC kindOf ((p,w)::P.zip vs) m p=_;unfold bindC;rw[qT λv c=>(z58.mp nd).1 (List.of_mem_zip c).1,if_neg hk];simp
 |p::P,w::vs,i+1,m,nd,a,b,hk=>by
  show bindC kindOf ((p,w)::P.zip vs) m x=_;unfold bindC;exact qE (i:=i) (z58.mp nd).2 (by simpa using a) (by simpa using b) hk
def start (N:List Str)(vs:List V):St:=vs.map some++List.replicate (N.length-vs.length) none
def wx (CX:CXT)(P:Program)(w:World)(K:PySem.W.Frag)(mg:Str->Option Value)(base:Heap)(N:List Str)(qual:Str)(scope:Scope)(f:Addr)(cd:Value)(A:Around)(outer:List Env)(s:Shared)(H:Hp)(E:XK):Cx where
 prog:=P
 w:=w
 K:=K
 mg:=mg
 base:=base
 A:=A.deeper (envOfC qual scope s.heap.objs.size f cd)
 N:=N
 s₀:=s
 H₀:=H
 env:=envOfC qual scope s.heap.objs.size f cd
 outer:=outer
 stack:=envOfC qual scope s.heap.objs.size f cd::outer
 ex:=[]
 calm:=true
 fn:=λ_=>true
 pn:=[]
 xe:=λe s'=>wpAny (model P w) (A.deeper (envOfC qual scope s.heap.objs.size f cd)) (leaving (envOfC qual scope s.heap.objs.size f cd) e) (λ_ a=>CX outer H s E e a) (λb a=>CX outer H s E b a) s'
theorem nq {sc:Scope}{n:Nat}{x:Str}(h:sc.names.lookup x=some .cell):∃c,(cellsFrom n sc.names []).lookup x=some c:=by
 have q:=PySem.W.cellsFrom_some sc.names n [] (.inl h);exact Option.isSome_iff_exists.mp q
theorem gR {CX:CXT}{P:Program}{w:World}{K:PySem.W.Frag}{mg:Str->Option Value}{base:Heap}{N ps:List Str}{qual:Str}{scope:Scope}{f:Addr}{cd:Value}{A:Around}{outer:List Env}{s s1:Shared}{H:Hp}{E:XK}{us:List Value}{vs:List V}
  (S:zW N ps scope) (hd:A.handled=none) (g:uR P w K mg base A outer s H) (t:vs.length=ps.length) (r:Vals vs us)
  (x:InCallC s s.heap.objs.size (bindL (envOfC qual scope s.heap.objs.size f cd).kindOf (ps.zip us) λ_=>none) (cellsFrom (s.heap.objs.size+1) scope.names []) (bindC (envOfC qual scope s.heap.objs.size f cd).kindOf (ps.zip us) λ_=>none) s1):
  Inv (wx CX P w K mg base N qual scope f cd A outer s H E) [] (start N vs) H s1:=by
 have hpl:ps.length<=N.length:=by have:=congrArg List.length S.pre;rw[zP7]at this;exact zO0 (zO9 this.symm) (z73 _ _)
 obtain⟨o,tk,rfl,hk⟩:=x.done;have j:∀b:Addr,b∉(wx CX P w K mg base N qual scope f cd A outer s H E).ex:=λb z=>absurd (show b∈([]:List Addr)from z) (by simp);refine⟨⟨g.mod,S.kind,rfl,rfl,zN5 _,λy z c o d=>?_,λy hy=>?_,λy c _ h=>?_,λ_=>hd,Around.frames_deeper g.frames,.inr ⟨rfl,rfl⟩,λb z=>absurd z (j b),g.bs,g.bsz,λb _ _=>j b,λb z=>absurd z (j b),g.funs,g.frf⟩,
  rfl,g.bare,Un.kept hk,⟨_,x.toInCall.ns,λi y v o d D=>?_⟩,λy c h=>⟨_,x.cell y c h⟩,g.hok.fresh (zN5 _),λy c h=>?_,λp l=>absurd (show p∈([]:List (Addr×Obj))from l) (by simp),g.hok.kept hk,?_⟩
 ·exact name_of_addr x.apart (zU6 o) (zU6 d)
 ·have hy:scope.names.lookup y=some .cell\/scope.names.lookup y=some .free:=hy;rcases hy with hy|hy
  ·exact nq hy
  ·exact absurd rfl (S.nofree _ (zU6 hy))
 ·exact zR4 (x.above y c (zU6 h))
 ·have hi:i<vs.length:=by
   unfold start at d;by_cases hi:i<vs.length
   ·exact hi
   ·rw[zW0 (by simpa using hi)]at d;rw[zV9]at d;split at d<;>cases d
  have ha:vs[i]?=some v:=by
   unfold start at d;rw[zT7 (by simpa using hi),zO8]at d;cases e:vs[i]? with
   |none=>rw[e]at d;cases d
   |some a=>rw[e]at d;cases d;rfl
  obtain⟨u,B,C⟩:=r.get ha;have l:ps[i]?=some y:=by rw[<-S.pre,z26 (zN4 hi (zO9 t))];exact o
  have m:ps.Nodup:=by rw[<-S.pre];exact S.nd.sublist (zZ1 _ _)
  refine⟨u,C,?_⟩;rcases S.par y (zR1 l)with k|k
  ·exact .inl ⟨k,qD m l B k⟩
  ·obtain⟨c,e⟩:=nq (n:=s.heap.objs.size+1) k;refine .inr ⟨.inl k,c,e,?_⟩;have q:=x.cell y c e;rw[qE m l B (by show scope.names.lookup y≠_;rw[k];decide)]at q;exact q
 ·exact g.hok.fresh (zR4 (x.above y c (zU6 h)))
 ·unfold start;show _=N.length;rw[zQ5,zN0,List.length_replicate];exact zz7 t hpl
theorem eQ {CX:CXT}{P:Program}{w:World}{K:PySem.W.Frag}{mg:Str->Option Value}{base:Heap}{k:Nat}{f:Addr}{name qual:Str}{params:Arguments}{body:List Stmt}{scope:Scope}{dV kV doc pm cdv ct oc:Value}{an od:Option Addr}
  {osl:Array (Option Value)} {N ps:List Str} {sp:Sp} (z:K.lookup f=some ⟨oc,od,.func (PySem.W.fnOf name qual params body scope dV kV doc pm an cdv ct),osl⟩) (m:PySem.W.codeIn K cdv qual=true) (S:zW N ps scope)
  (len:∀vs H Q E,sp vs H Q E->vs.length=ps.length)
  (d:∀(A:Around) (outer:List Env) (s:Shared) (H:Hp) (vs:List V) (Q:VK) (E:XK),zN k (A.deeper (envOfC qual scope s.heap.objs.size f cdv))->sp vs H Q E->
   ∃t,PSs (wx CX P w K mg base N qual scope f cdv A outer s H E) body t/\t {nx:=λ_ H'=>Q .non H',rt:=Q} (start N vs) H):
  yK P w K mg base CX (k+1) f (PySem.W.fnOf name qual params body scope dV kV doc pm an cdv ct) ps sp:=by
 refine⟨len,λA outer s H args us vs Q E hr i hb r h=>?_⟩;have C:=len _ _ _ _ h;have p:K.In s.heap:=i.mod.kin.keeps λb o e=>(i.bs b o e).1;have lim:s.heap.NoLimit:=i.mod.nolimit.keeps λb o e=>(i.bs b o e).1;have c:∀y∈ps.zip us,scope.names.lookup y.1=some .local\/(scope.names.lookup y.1=some .cell/\((cellsFrom (s.heap.objs.size+1) scope.names []).lookup y.1).isSome=true):=λj hy=>by
  obtain⟨n,v⟩:=j;rcases S.par n (List.of_mem_zip hy).1 with q|q
  ·exact .inl q
  ·exact .inr ⟨q,PySem.W.cellsFrom_some _ _ _ (.inl q)⟩
 refine codeAny_call_function hr.depth (p _ _ z) rfl S.co S.gen rfl (PySem.W.codeRec_of p m) (hb _ _ _ _ ?_);refine wpAny_newFunctionEnv_cells S.kind c λenv he s1 x=>?_;subst he;refine⟨lim.keeps x.toInCall.keep,codeAny_func ?_⟩;obtain⟨t,B,hq⟩:=d A outer s H vs Q E (hr.deeper _) h;have I:Inv (wx CX P w K mg base N qual scope f cdv A outer s H E) [] (start N vs) H s1:=gR S hr.hd i C r x;refine zS9 (B [] s1 (start N vs) H _ I hq) (λD s' g=>?_) λe s' g=>g;have fin:∀{a:St} {H':Hp} {v:V} {u:Value},Inv (wx CX P w K mg base N qual scope f cdv A outer s H E) [] a H' s'->RelV v u->Q v H'->CE outer P w H s Q u s':=
  λ{a H' v u} J l q=>⟨v,H',J.os,J.bare,J.base,J.hok,l,q⟩
 cases D with
 |ret u=>
  obtain⟨v,a,H',J,l,q⟩:=g;exact fin J l q
 |next=>
  obtain⟨a,H',J,q⟩:=g;exact fin (v:=V.non) (u:=Value.none) J rfl q
 |brk=>
  obtain⟨_,_,_,q⟩:=g;exact False.elim q
 |cont=>
  obtain⟨_,_,_,q⟩:=g;exact False.elim q
section
variable {X:Cx}{x:Str}{p pos:Pos}{e:Expr}{es:List Expr}{t:TA}{id T:String}{r:List V->Hp->VK->Prop}
def tCB (r:List V->Hp->VK->Prop)(t:TA):TE:=λσ H Q=>t σ H λvs H1=>r vs H1 Q
theorem vX (i:xl X (.builtin id) r)(hg:Gl X x)(hm:X.mg x=none)(c:bootBuiltins x=some (.builtin id))(ha:PA X (e::es) t)(hn:x≠"__name__":=by decide)(b:(x == ("__debug__":Str))=false:=by decide)
  (he:starEach (e::es) X.env=(false,eval e X.env)::starEach es X.env:=by rfl) (hpl:(backTo pos (starEach es X.env)).any (·.1)=false:=by rfl):PE X (.Call (.Name x p) (e::es) [] pos) (tCB r t):=by
 intro pins s σ H Q I h;refine z37 (xD I hg hm c ?_ hn b);exact PyProof.Rows.callWith_builtin1 (thn (ha pos pins s σ H _ I h) λus s1 a=>by obtain⟨vs,H1,d,f,g⟩:=a;exact i pins s1 σ H1 vs us Q d f g) he hpl
theorem wX (i:xl X (.type T) r)(hg:Gl X x)(hm:X.mg x=none)(c:bootBuiltins x=some (.type T))(ha:PA X (e::es) t)(hn:x≠"__name__":=by decide)(b:(x == ("__debug__":Str))=false:=by decide)
  (he:starEach (e::es) X.env=(false,eval e X.env)::starEach es X.env:=by rfl) (hpl:(backTo pos (starEach es X.env)).any (·.1)=false:=by rfl):PE X (.Call (.Name x p) (e::es) [] pos) (tCB r t):=by
 intro pins s σ H Q I h;refine z37 (xD I hg hm c ?_ hn b);exact zU7 (thn (ha pos pins s σ H _ I h) λus s1 a=>by obtain⟨vs,H1,d,f,g⟩:=a;exact i pins s1 σ H1 vs us Q d f g) he hpl
end
end L2
namespace HT
open PySem PyProof.Rows
section
open PySem.SeqAt
open PySem.AutoSeq1 (wpAny_loadPart')
open PySem.MeetsSeq PySem.MeetsSeq2 PySem.MeetsSeq3
end
section
variable {prog:Program}{w:World}{A:Around}{E:Value->Shared->Prop}{s:Shared}
theorem za5 {t b:Addr}{vs ws:List Value}{Q:Value->Shared->Prop}(m:IsTup s.heap t vs.toArray)(hb:IsTup s.heap b ws.toArray)(i:vs≠[])
  (o:ws=[]->Q (.ref t) s) (p:ws≠[]->Q (.ref s.heap.objs.size) {s with heap:=s.heap.push {cls:=.type "tuple",data:=.seq (vs++ws).toArray}})
  (h:vs.length+ws.length<=sizeLine):wpAny (model prog w) A (binaryOp .Add (.ref t) (.ref b)) Q E s:=by
 obtain⟨⟨cls,l,data,sl⟩,g,k,n,hd⟩:=id m;obtain⟨⟨j,d,data2,f⟩,a,c,n2,hd2⟩:=id hb;simp only at k hd c hd2;subst k hd c hd2;have e:vs.toArray++ws.toArray=(vs++ws).toArray:=by simp
 by_cases hw:ws=[]
 ·exact concat_meets ⟨_,g,rfl⟩ ⟨_,a,rfl⟩ noFill_tuple_add seq_tuple_add PySem.F.slot_tuple_add PySem.F.entry_tuple_add (PySem.F.args_tuple_add_2 _ _)
   (tuple_addW1 t b vs.toArray ws.toArray n n2 l d sl f (by simpa using i) (by simp[hw])) ⟨g,a,o hw⟩
 ·refine concat_meets ⟨_,g,rfl⟩ ⟨_,a,rfl⟩ noFill_tuple_add seq_tuple_add PySem.F.slot_tuple_add PySem.F.entry_tuple_add (PySem.F.args_tuple_add_2 _ _)
   (tuple_addW2 t b vs.toArray ws.toArray n n2 l d sl f (by simpa using i) (by simpa using hw) (by rw[zO3,zO3];exact h)) ⟨g,a,?_⟩
  rw[e];exact p hw
def sIx (n d:Nat):Option Int->Nat
 |none=>d
 |some v=>if v<0 then(v+(n:Int)).toNat else min v.toNat n
theorem oU (n d:Nat):sIx n d none=d:=rfl
theorem ic (n d k:Nat):sIx n d (some (k:Int))=min k n:=by
 show(if(k:Int)<0 then((k:Int)+(n:Int)).toNat else min (k:Int).toNat n)=min k n;rw[if_neg (Int.not_lt.2 (z94 _)),zS2]
theorem zv0 (n d:Nat)(hd:d<=n)(o:Option Int):sIx n d o<=n:=by
 cases o with
 |none=>exact hd
 |some v=>
  show(if v<0 then(v+(n:Int)).toNat else min v.toNat n)<=n;by_cases a:v<0
  ·rw[if_pos a];lia
  ·rw[if_neg a];exact z73 _ _
theorem kU (v:Int)(n d:Nat):(if v<0 then max (v+(n:Int)) 0 else min v (n:Int))=((sIx n d (some v):Nat):Int):=by
 show(if v<0 then max (v+(n:Int)) 0 else min v (n:Int))=(((if v<0 then(v+(n:Int)).toNat else min v.toNat n):Nat):Int);by_cases a:v<0
 ·simp only[if_pos a];lia
 ·simp only[if_neg a];lia
theorem lM (lo hi:Option Int)(n:Nat):Builtin.Slice.sliceAdjust lo hi 1 (n:Int)=(((sIx n 0 lo:Nat):Int),((sIx n n hi:Nat):Int)):=by
 have a:¬((1:Int)<0):=by decide
 unfold Builtin.Slice.sliceAdjust;simp only[a,z49];refine Prod.ext ?_ ?_
 ·cases lo with
  |none=>rfl
  |some v=>exact kU v n 0
 ·cases hi with
  |none=>rfl
  |some v=>exact kU v n n
theorem lX (i j:Nat):Builtin.Slice.slicePlaces (i:Int) (j:Int) 1=j-i:=by
 unfold Builtin.Slice.slicePlaces;have a:(1:Int) > 0:=by decide
 simp only[a,z45,Int.ediv_one];split<;>lia
theorem sC {v:Value}{o:Option Int}{Q:Option Int->Shared->Prop}(p:IsPart v o)(h:Q o s):wpAny (model prog w) A (Builtin.Slice.slicePartIndex v) Q E s:=by
 cases p with
 |none=>exact slicePart_none h
 |int i t=>exact slicePart_int h
theorem uA {sl:Addr}{c d:Value}{lo hi:Option Int}{n:Nat}{Q:Int×Int×Nat->Shared->Prop}(e:s.heap.IsSliceOf sl c d .none)(pl:IsPart c lo)(pu:IsPart d hi)
  (h:Q (((sIx n 0 lo:Nat):Int),1,sIx n n hi-sIx n 0 lo) s):wpAny (model prog w) A (Builtin.Slice.sliceApplied (.ref sl) (pure (n:Int))) Q E s:=by
 obtain⟨os,a,f,b⟩:=id e;unfold Builtin.Slice.sliceApplied Builtin.Slice.sliceFields;refine zM8 (zM8 (zW8 a b (x:=c) rfl (zM8 (zW8 a b (x:=d) rfl (zM8 (zW8 a b (x:=.none) rfl (zN1 ?_)))))));refine zM8 (slicePart_none ?_);show wpAny _ _ (if((1:Int)==0)=true then _ else _) _ _ s;rw[if_neg (by decide)];refine zM8 (sC pl (zM8 (sC pu (zM8 (zN1 ?_)))));show wpAny _ _ (match Builtin.Slice.sliceAdjust lo hi 1 (n:Int)with|(lo,hi)=>pure (lo,(1:Int),Builtin.Slice.slicePlaces lo hi 1)) _ _ s;rw[lM lo hi n];show wpAny _ _ (pure (((sIx n 0 lo:Nat):Int),(1:Int),Builtin.Slice.slicePlaces ((sIx n 0 lo:Nat):Int) ((sIx n n hi:Nat):Int) 1)) _ _ s;rw[lX];exact zN1 h
theorem cK (xs:Array Value)(i k:Nat):((List.range k).filterMap λ(m:Nat)=>xs[((i:Int)+(m:Int)*1).toNat]?).toArray=((xs.toList.drop i).take k).toArray:=by
 have e:(λ(m:Nat)=>xs[((i:Int)+(m:Int)*1).toNat]?)=λm=>xs[i+m]?:=by
  funext m
  have:((i:Int)+(m:Int)*1).toNat=i+m:=by lia
  rw[this]
 rw[e];have:=pick_run xs i k;rw[List.filterMap_map]at this;have a:((λx=>xs[x]?)∘λx=>i+x)=λm=>xs[i+m]?:=rfl;rw[a]at this;rw[this]
theorem vQ {t sl:Addr}{items:Array Value}{i j:Value}{lo hi:Option Int}{Q:Value->Shared->Prop}(b:IsTup s.heap t items)(g:s.heap.IsSliceOf sl i j .none)(pl:IsPart i lo)(pu:IsPart j hi)
  (hw:¬(sIx items.size 0 lo=0/\sIx items.size items.size hi=items.size))
  (h:Q (.ref s.heap.objs.size) {s with heap:=s.heap.push {cls:=.type "tuple",data:=.seq ((items.toList.drop (sIx items.size 0 lo)).take (sIx items.size items.size hi-sIx items.size 0 lo)).toArray}})
  (f:items.size<=sizeLine):wpAny (model prog w) A (getItem (.ref t) (.ref sl)) Q E s:=by
 have a:sizeOk (.seq ((items.toList.drop (sIx items.size 0 lo)).take (sIx items.size items.size hi-sIx items.size 0 lo)).toArray):=by
  show((items.toList.drop (sIx items.size 0 lo)).take (sIx items.size items.size hi-sIx items.size 0 lo)).toArray.size<=sizeLine;rw[zO3,zP7,zQ9,zU5];exact zO0 (z73 _ _) (zO0 (Nat.sub_le _ _) f)
 have o:sIx items.size items.size hi<=items.size:=zv0 _ _ (zN5 _) hi;obtain⟨os,e,d,k⟩:=id g;have c:s.TypeIs (.ref sl) "slice":=⟨os,e,d⟩;unfold getItem
 try with_reducible refine zT0 ?_
 first|refine zM8 (zN1 ?_)|skip
 refine zM8 (wpAny_sequenceKey b.typeIs (by decide) ?_);refine zM8 (zU8 (name:=Str.ofString "__getitem__") b.typeIs z33
  (zU2 z33 b.typeIs entry_tuple_getitem ?_ (args_tuple_getitem _ _)))
 show wpAny _ _ (Builtin.Tuple.tupleItemsOf (.ref t) >>= _) _ _ s;refine zM8 (tupleItemsOf_ b ?_);refine zM8 (wpAny_typeOf c ?_);rw[if_pos (by decide)];refine zM8 (uA g pl pu ?_);have hno:¬((((sIx items.size 0 lo:Nat):Int)==0&&(1:Int)==1&&(sIx items.size items.size hi-sIx items.size 0 lo)==items.size)=true):=by
  intro q;rw[zR5,zR5]at q;have n:((sIx items.size 0 lo:Nat):Int)=0:=eq_of_beq q.1.1;have l:sIx items.size items.size hi-sIx items.size 0 lo=items.size:=eq_of_beq q.2;exact hw ⟨by lia,by lia⟩
 show wpAny _ _ (if(((sIx items.size 0 lo:Nat):Int)==0&&(1:Int)==1&&(sIx items.size items.size hi-sIx items.size 0 lo)==items.size)=true then _ else _) _ _ s;rw[if_neg hno,cK]
 first
  |exact zM8 (m:=Builtin.Tuple.tupleExact _) (zT5 (zN1 ⟨_,rfl,zN1 h⟩) a)
  |exact zM8 (m:=Builtin.Tuple.tupleExact _) (zT5 (zM8 (zN1 (zN1 ⟨_,rfl,zN1 h⟩))) a)
  |exact zM8 (zM8 (m:=Builtin.Tuple.tupleExact _) (zT5 (zN1 (zN1 ⟨_,rfl,zN1 h⟩)) a))
  |exact zM8 (zM8 (m:=Builtin.Tuple.tupleExact _) (zT5 (zN1 ⟨_,rfl,zN1 h⟩) a))
end
end HT
namespace L2
open PySem PySem.Spec PyProof.Rows
abbrev TO :=St->Hp->(Option Int->Hp->Prop)->Prop
def PO (X:Cx)(e:Option Expr)(t:TO):Prop:=
 ∀(pins:List (Addr×Obj)) (s:Shared) (σ:St) (H:Hp) (Q:Option Int->Hp->Prop),Inv X pins σ H s->t σ H Q->
  wpAny (model X.prog X.w) X.A (evalPart e X.env) (λu s'=>∃o H',Inv X pins σ H' s'/\IsPart u o/\Q o H') X.xe s
def aN :TO:=λ_ H Q=>Q none H
def zE2 (t:TE):TO:=λσ H Q=>t σ H λx H1=>∃i,x=.int i/\Q (some i) H1
theorem intsAre_of {ns:List Int}:∀{us:List Value},Vals (ns.map V.int) us->IntsAre us ns:=by
 induction ns with
 |nil=>intro us r;rw[List.map_nil]at r;cases r;exact .nil
 |cons n ns c=>
  intro us r;rw[zR6]at r;cases r with
  |cons b a=>
   obtain⟨t,e⟩:=b;subst e;exact .cons n t (c a)
section
variable {X:Cx}{e:Expr}{te:TE}{lo hi:Option Expr}{tl th:TO}{pos p2:Pos}
theorem jW :PO X none aN:=by
 intro pins s σ H Q I h;rw[evalPart_none];exact zN1 ⟨none,H,I,.none,h⟩
theorem jL (h:PE X e te):PO X (some e) (zE2 te):=by
 intro pins s σ H Q I hw;rw[evalPart_some];refine thn (h pins s σ H _ I hw) λu s1 a=>?_;obtain⟨x,H1,b,c,d⟩:=a;obtain⟨i,rfl,q⟩:=d;obtain⟨t,rfl⟩:=c;exact⟨some i,H1,b,.int i t,q⟩
def SlR (X:Cx)(r:V->Option Int->Option Int->Hp->VK->Prop):Prop:=
 ∀(pins:List (Addr×Obj)) (s:Shared) (σ:St) (H:Hp) (x:V) (v b a:Value) (lo hi:Option Int) (sl:Addr) (Q:VK),Inv X pins σ H s->RelV x v->s.heap.IsSliceOf sl b a .none->IsPart b lo->IsPart a hi->r x lo hi H Q->
  ∃T id,typeLookup (.type T) "__getitem__"=pure (some (.builtin id))/\s.TypeIs v T/\wpAny (model X.prog X.w) X.A (getItem v (.ref sl)) (EP X pins σ Q) X.xe s
def tSl (r:V->Option Int->Option Int->Hp->VK->Prop)(te:TE)(tl th:TO):TE:=λσ H Q=>te σ H λx H1=>tl σ H1 λl a=>th σ a λu b=>r x l u b Q
theorem sX {r:V->Option Int->Option Int->Hp->VK->Prop}(hr:SlR X r)(he:PE X e te)(i:PO X lo tl)(o:PO X hi th):PE X (.Subscript e (.Slice lo hi none p2) pos) (tSl r te tl th):=by
 intro pins s σ H Q I h;refine Subscript_ (thn (he pins s σ H _ I h) λv s1 ⟨x,H1,g,k,n⟩=>?_);refine wpAny_Slice (thn (i pins s1 σ H1 _ g n) λa s2 ⟨l,p,f,pl,t⟩=>thn (o pins s2 σ p _ f t) λc s3 ⟨u,d,j,pu,B⟩=>?_);rw[evalPart_none];refine zN1 ?_;have z:Inv X pins σ d {s3 with heap:=s3.heap.push {cls:=.type "slice",data:=.fields #[a,c,.none]}}:=j.kept (t':=s3.toks) λb ob q=>zM9 _ q;obtain⟨T,id,m,y,hg⟩:=hr pins {s3 with heap:=s3.heap.push {cls:=.type "slice",data:=.fields #[a,c,.none]}} σ d x v a c l u s3.heap.objs.size Q z k (Heap.IsSliceOf.new ..) pl pu B;show wpAny (model X.prog X.w) X.A (subscriptTail e (.Slice lo hi none p2) v (.ref s3.heap.objs.size)) (EP X pins σ Q) X.xe {s3 with heap:=s3.heap.push {cls:=.type "slice",data:=.fields #[a,c,.none]}};exact tail_any (ops:=[.ref s3.heap.objs.size,v]) y m hg (by with_unfolding_all rfl)
def sR (xs:List V)(lo hi:Option Int):List V:=(xs.drop (HT.sIx xs.length 0 lo)).take (HT.sIx xs.length xs.length hi-HT.sIx xs.length 0 lo)
theorem tq (xs:List V)(lo hi:Option Int):(sR xs lo hi).length<=xs.length:=by
 unfold sR;rw[zP7,zQ9];exact zO0 (z73 _ _) (Nat.sub_le _ _)
def zM0 (K:PySem.W.Frag):V->Option Int->Option Int->Hp->VK->Prop:=λx lo hi H Q=>∃a xs,x=.ref a/\SqT K H a xs/\
 ¬(HT.sIx xs.length 0 lo=0/\HT.sIx xs.length xs.length hi=xs.length)/\∀p,H p=none->Q (.ref p) (upd H p (.tup (sR xs lo hi)))
theorem zs9 :SlR X (zM0 X.K):=by
 intro pins s σ H x v i j lo hi sl Q I f d pl pu h;obtain⟨a,xs,rfl,g,hw,q⟩:=h;cases f;obtain⟨its,r,c,hz⟩:=I.tuple g;have hlen:its.toArray.size=xs.length:=by rw[zO3];exact r.length.symm
 refine⟨"tuple",_,z33.lookup,c.typeIs,?_⟩;refine HT.vQ c d pl pu (by rw[hlen];exact hw) ?_ (by rw[hlen];exact hz);rw[hlen];refine⟨.ref s.heap.objs.size,_,I.laid (t':=s.toks) (o:=.tup (sR xs lo hi)) (λb ob q=>zM9 _ q) (zN5 _) ?_,rfl,q _ (I.hok.fresh (zN5 _))⟩;exact⟨zO0 (tq xs lo hi) hz,_,(r.drop (HT.sIx xs.length 0 lo)).take (HT.sIx xs.length xs.length hi-HT.sIx xs.length 0 lo),IsTup.new _ _⟩
def zF0 (K:PySem.W.Frag):R2:=λx y H Q=>∃a b xs ys,x=.ref a/\y=.ref b/\SqT K H a xs/\SqT K H b ys/\xs≠[]/\xs.length+ys.length<=sizeLine/\
 (ys=[]->Q (.ref a) H)/\(ys≠[]->∀p,H p=none->Q (.ref p) (upd H p (.tup (xs++ys))))
theorem Vals.nil_iff {xs:List V}{us:List Value}(r:Vals xs us):us=[]↔xs=[]:=by
 cases r with
 |nil=>simp
 |cons _ _=>simp
theorem aW :OpR X (binaryOp .Add) (zF0 X.K):=by
 intro pins s σ H x y v u Q I i l h;obtain⟨a,b,xs,ys,rfl,rfl,ha,hb,k,hz,j,g⟩:=h;cases i;cases l;obtain⟨its,d,p1,_⟩:=I.tuple ha;obtain⟨f,c,p2,_⟩:=I.tuple hb;refine HT.za5 p1 p2 (λz=>k (d.nil_iff.mp z)) (λz=>⟨.ref a,H,I,rfl,j (c.nil_iff.mp z)⟩) (λz=>?_) (by rw[<-d.length,<-c.length];exact hz);refine⟨.ref s.heap.objs.size,_,I.laid (t':=s.toks) (o:=.tup (xs++ys)) (λb ob q=>zM9 _ q) (zN5 _) ?_,rfl,g (λw=>z (c.nil_iff.mpr w)) _ (I.hok.fresh (zN5 _))⟩;exact⟨by rw[zQ5];exact hz,_,d.append c,IsTup.new _ _⟩
end
def ixN (n:Nat)(i:Int):Option Nat:=if 0<=i then(if i<n then some i.toNat else none)else if -(n:Int)<=i then some (i+n).toNat else none
def atI {α:Type}(xs:List α)(i:Int):Option α:=(ixN xs.length i).bind λj=>xs[j]?
theorem ox {n:Nat}{i:Int}{j:Nat}(h:ixN n i=some j):seqIndex? i n=some j/\j<n/\-(n:Int)<=i/\i<n:=by
 unfold ixN at h;by_cases h0:0<=i
 ·rw[if_pos h0]at h;by_cases a:i<n
  ·rw[if_pos a]at h;have e:i.toNat=j:=zR0 h;exact⟨by rw[seqIndex_of h0 a,e],by lia,by lia,a⟩
  ·rw[if_neg a]at h;cases h
 ·rw[if_neg h0]at h;by_cases a:-(n:Int)<=i
  ·rw[if_pos a]at h;have e:(i+n).toNat=j:=zR0 h;exact⟨by rw[seqIndex_neg (z82.1 h0) a,e],by lia,a,(z95 (z82.1 h0) (z94 _))⟩
  ·rw[if_neg a]at h;cases h
theorem oh {α:Type}{xs:List α}{i:Int}{v:α}(h:atI xs i=some v):∃j,seqIndex? i xs.length=some j/\xs[j]?=some v/\j<xs.length/\-(xs.length:Int)<=i/\i<xs.length:=by
 unfold atI at h;cases e:ixN xs.length i with
 |none=>rw[e]at h;cases h
 |some j=>
  rw[e]at h;obtain⟨a,b,c,d⟩:=ox e;exact⟨j,a,h,b,c,d⟩
theorem wV {α:Type}{xs:List α}{j:Nat}{v:α}(h:xs[j]?=some v):atI xs (j:Int)=some v:=by
 have a:j<xs.length:=(zN8.mp h).1;have e:ixN xs.length (j:Int)=some j:=by
  unfold ixN;rw[if_pos (z94 _),if_pos (Int.ofNat_lt.2 a)];simp
 unfold atI;rw[e];exact h
def pq (b:Expr):Prop:=∀o i,subscripted b false o i=operate [o,i] (getItem o i)
def IxR (X:Cx)(r:R2):Prop:=
 ∀(value slice:Expr) (pins:List (Addr×Obj)) (s:Shared) (σ:St) (H:Hp) (x y:V) (v u:Value) (Q:VK),Inv X pins σ H s->RelV x v->RelV y u->r x y H Q->
  subscripted slice false v u=operate [v,u] (getItem v u)->wpAny (model X.prog X.w) X.A (subscriptTail value slice v u) (EP X pins σ Q) X.xe s
def MtR (X:Cx)(id:String)(r:V->List V->Hp->VK->Prop):Prop:=
 ∀(pins:List (Addr×Obj)) (s:Shared) (σ:St) (H:Hp) (x:V) (xs:List V) (v:Value) (us:List Value) (Q:VK),Inv X pins σ H s->RelV x v->Vals xs us->r x xs H Q->
  wpAny (model X.prog X.w) X.A (call (.builtin id) (v::us)) (EP X pins σ Q) X.xe s
section
variable {X:Cx}{a b:Expr}{ta tb:TE}{pos:Pos}
theorem IxR.or {r e:R2}(h:IxR X r)(h':IxR X e):IxR X (λx y H Q=>r x y H Q\/e x y H Q):=by
 intro value slice pins s σ H x y v u Q I d f q c;rcases q with q|q
 ·exact h value slice pins s σ H x y v u Q I d f q c
 ·exact h' value slice pins s σ H x y v u Q I d f q c
theorem vA {r:R2}(hr:IxR X r)(ha:PE X a ta)(hb:PE X b tb)(c:pq b):PE X (.Subscript a b pos) (tOp r ta tb):=by
 intro pins s σ H Q I h;exact Subscript_ (zs4 ha hb I h λv u s2 x y d e f g q=>hr a b pins s2 σ d x y v u Q e f g q (c _ _))
def zG4 (K:PySem.W.Frag):R2:=λx y H Q=>∃p xs i v,x=.ref p/\y=.int i/\SqL K H p xs/\atI xs i=some v/\Q v H
def zt6 (K:PySem.W.Frag):R2:=λx y H Q=>∃p xs i v,x=.ref p/\y=.int i/\SqT K H p xs/\atI xs i=some v/\Q v H
def zH9 :R2:=λx y H Q=>∃z i c,x=.str z/\y=.int i/\z.length<=sizeLine/\atI z.cps.toList i=some c/\Q (.str ⟨#[c]⟩) H
theorem xi :IxR X (zG4 X.K):=by
 intro value slice pins s σ H x y v u Q I o n h f;obtain⟨p,xs,i,z,rfl,rfl,hq,he,q⟩:=h;cases o;obtain⟨t,rfl⟩:=n;obtain⟨its,r,pl,hz⟩:=I.list hq;obtain⟨j,c,A,B,l,k⟩:=oh he;obtain⟨w,g,d⟩:=r.get A;have m:=r.length;have hn:=uD;have fin:EP X pins σ Q w s:=⟨z,H,I,d,q⟩;by_cases h0:0<=i
 ·have e:i.toNat=j:=by
   rw[seqIndex_of h0 k]at c;exact zR0 c
  exact item_listR pl.isList h0 (fG hn k hz) (by rw[e];simpa using g) fin f
 ·have e:(i+(its.toArray.size:Int)).toNat=j:=by
   rw[seqIndex_neg (z82.1 h0) l]at c;rw[zO3,<-m];exact zR0 c
  exact subscriptTail_builtinR (x:=w) pl.isList.typeIs slot_list_getitem.lookup
   (wpAny_getItem_list_neg (Q:=λr s'=>r=w/\EP X pins σ Q r s') pl.isList (z82.1 h0) (by rw[zO3]<;>lia) (bI l hz hn) (by rw[e];simpa using g) ⟨rfl,fin⟩) f
theorem dQ :IxR X (zt6 X.K):=by
 intro value slice pins s σ H x y v u Q I m l h d;obtain⟨p,xs,i,z,rfl,rfl,hq,he,q⟩:=h;cases m;obtain⟨t,rfl⟩:=l;obtain⟨its,r,pl,hz⟩:=I.tuple hq;obtain⟨j,k,n,A,o,f⟩:=oh he;obtain⟨w,e,c⟩:=r.get n;have g:=r.length;have hn:=uD;have fin:EP X pins σ Q w s:=⟨z,H,I,c,q⟩;exact subscriptTail_builtinR (x:=w) pl.typeIs slot_tuple_getitem.lookup
  (getItem_tuple (j:=j) (Q:=λr s'=>r=w/\EP X pins σ Q r s') pl (bI o hz hn) (fG hn f hz) (by rw[zO3,<-g];exact k) (by simpa using e) ⟨rfl,fin⟩) d
theorem zw7 :IxR X zH9:=by
 intro value slice pins s σ H x y v u Q I f o h e;obtain⟨z,i,c,rfl,rfl,hz,he,q⟩:=h;obtain⟨t,rfl⟩:=f;obtain⟨t',rfl⟩:=o;obtain⟨j,d,m,p,n,g⟩:=oh he;have k:z.cps.toList.length=z.length:=by simp[Str.length]
 rw[k]at d n g;have hn:=uD;exact tail_any (typeIs_str s z t) slot_str_getitem.lookup (getItem_str (c:=c) (by
  have e1:decide (i < -(2 ^ 63:Int))=false:=zQ3 (by lia);have l:decide (i≥2 ^ 63)=false:=zQ3 (by lia);rw[e1,l,Bool.or_false]) (by rw[d];simpa using m) ⟨.str ⟨#[c]⟩,H,I.tok _,⟨_,rfl⟩,q⟩) e
def rIx (K:PySem.W.Frag):R2:=λx y H Q=>zG4 K x y H Q\/zt6 K x y H Q\/zH9 x y H Q
theorem zx5 :IxR X (rIx X.K):=xi.or (dQ.or zw7)
theorem lS (its:List Value)(n j:Nat)(u:Value):Obj.mapSeq (·.setIfInBounds j u) {cls:=.type "list",data:=.seq its.toArray n}={cls:=.type "list",data:=.seq (its.set j u).toArray n}:=by simp[Obj.mapSeq]
theorem Inv.lst {pins:List (Addr×Obj)}{σ:St}{H:Hp}{s:Shared}{p:Addr}{xs:List V}(I:Inv X pins σ H s)(h:H p=some (.lst xs)):
  ∃(its:List Value) (n:Nat),Vals xs its/\s.heap.get? p=some {cls:=.type "list",data:=.seq its.toArray n}/\xs.length<=sizeLine:=by
 obtain⟨z,its,n,r,e⟩:=I.hok p _ h;exact⟨its,n,r,e,z⟩
theorem Inv.lstUpd {pins:List (Addr×Obj)}{σ:St}{H:Hp}{s:Shared}{p:Addr}{xs ys:List V}{its its':List Value}{n c:Nat}{f:Obj->Obj}(I:Inv X pins σ H s)(h:H p=some (.lst xs))
  (d:s.heap.get? p=some {cls:=.type "list",data:=.seq its.toArray n}) (hf:f {cls:=.type "list",data:=.seq its.toArray n}={cls:=.type "list",data:=.seq its'.toArray c}) (r:Vals ys its') (hz:ys.length<=sizeLine) (t:Nat):
  Inv X pins σ (upd H p (.lst ys)) {s with heap:=s.heap.update p f,toks:=t}:=by
 have e:(s.heap.update p f).get? p=some {cls:=.type "list",data:=.seq its'.toArray c}:=by rw[z21 f d (by rw[hf]<;>rfl),hf]
 refine I.write (x:=p) (e:=p) (by rw[h];trivial) (.inl rfl) (λb u hb q=>(zS4 _ _ (zS3 hb)).trans q) ⟨_,e⟩ ?_;exact⟨hz,its',c,r,e⟩
def ja :V->V->V->Hp->(Hp->Prop)->Prop:=λo i v H Q=>∃p xs k j,o=.ref p/\i=.int k/\H p=some (.lst xs)/\ixN xs.length k=some j/\Q (upd H p (.lst (xs.set j v)))
theorem set_list :zC9 X ja:=by
 intro pins s σ H o i v C A u Q I y x w h;obtain⟨p,xs,k,j,rfl,rfl,m,z,q⟩:=h;cases y;obtain⟨t,rfl⟩:=x;obtain⟨its,n,r,f,hz⟩:=I.lst m;obtain⟨c,B,d,g⟩:=ox z;have e:=r.length;have hn:=uD;have l:Inv X pins σ (upd H p (.lst (xs.set j v))) {s with heap:=s.heap.update p (Obj.mapSeq (·.setIfInBounds j u))}:=
  I.lstUpd m f (lS its n j u) (r.set w j) (by rw[zS5];exact hz) s.toks
 by_cases h0:0<=k
 ·have hk:k.toNat=j:=by
   rw[seqIndex_of h0 g]at c;exact zR0 c
  exact PySem.W.ki_setAt f h0 (fG hn g hz) (by rw[zO3,<-e];exact g) (by rw[hk];exact⟨_,l,q⟩)
 ·have hk:(k+(its.toArray.size:Int)).toNat=j:=by
   rw[seqIndex_neg (z82.1 h0) d]at c;rw[zO3,<-e];exact zR0 c
  exact PySem.W.ki_setBack f (z82.1 h0) (by rw[zO3,<-e];exact d) (bI d hz hn) (by rw[hk];exact⟨_,l,q⟩)
theorem pG (lo hi:Option Int)(n:Nat):(sliceBounds lo hi none n).1=((HT.sIx n 0 lo:Nat):Int)/\(sliceBounds lo hi none n).2.1=((HT.sIx n n hi:Nat):Int)/\(sliceBounds lo hi none n).2.2=1:=by
 refine⟨?_,?_,rfl⟩
 ·cases lo with
  |none=>simp[sliceBounds,HT.sIx]
  |some i=>
   simp only[sliceBounds,HT.sIx,Option.getD_none,show(1:Int) > 0 by decide,z45];by_cases h:i<0
   ·simp only[h,z45]<;>exact zi6 h
   ·simp only[h,z49]<;>exact zm6
 ·cases hi with
  |none=>simp[sliceBounds,HT.sIx]
  |some i=>
   simp only[sliceBounds,HT.sIx,Option.getD_none,show(1:Int) > 0 by decide,z45];by_cases h:i<0
   ·simp only[h,z45]<;>exact zi6 h
   ·simp only[h,z49]<;>exact zm6
theorem qc (its:List Value)(lo hi:Option Int):slicePick its.toArray lo hi none=((its.drop (HT.sIx its.length 0 lo)).take (HT.sIx its.length its.length hi-HT.sIx its.length 0 lo)).toArray:=by
 obtain⟨c,d,e⟩:=pG lo hi its.toArray.size;unfold slicePick;rw[c,d,e];simp only[sliceRange_one,pick_run,zO3]<;>rfl
def zL6 (K:PySem.W.Frag):V->Option Int->Option Int->Hp->VK->Prop:=λx lo hi H Q=>∃a xs,x=.ref a/\SqL K H a xs/\∀p,H p=none->Q (.ref p) (upd H p (.lst (sR xs lo hi)))
theorem jz :SlR X (zL6 X.K):=by
 intro pins s σ H x v g i lo hi sl Q I e d pl pu h;obtain⟨a,xs,rfl,f,q⟩:=h;cases e;obtain⟨its,r,c,hz⟩:=I.list f;have hlen:=r.length;refine⟨"list",_,slot_list_getitem.lookup,c.isList.typeIs,?_⟩;refine wpAny_getItem_list_slice c.isList d pl pu .none (by simp) ?_ (by rw[zO3]<;>exact zO0 (zO9 hlen.symm) hz);rw[qc,<-hlen];refine⟨.ref s.heap.objs.size,_,I.laid (t':=s.toks) (o:=.lst (sR xs lo hi)) (λb ob q=>zM9 _ q) (zN5 _) ?_,rfl,q _ (I.hok.fresh (zN5 _))⟩;exact⟨zO0 (tq xs lo hi) hz,_,0,(r.drop (HT.sIx xs.length 0 lo)).take (HT.sIx xs.length xs.length hi-HT.sIx xs.length 0 lo),zO2 _ rfl⟩
def vw :V->Bool
 |.non=>true
 |.bl _=>true
 |.int _=>true
 |.str _=>true
 |_=>false
def eqV :V->V->Bool
 |.non,.non=>true
 |.bl a,.bl b=>a == b
 |.bl a,.int b=>(if a then 1 else 0)==b
 |.int a,.bl b=>a == (if b then 1 else 0)
 |.int a,.int b=>a == b
 |.str a,.str b=>a == b
 |_,_=>false
theorem zv8 {A:Around}{s:Shared}{y x:V}{u v:Value}(e:RelV y u)(c:RelV x v)(f:vw y=true)(d:vw x=true):SeqAt.EqAt A s u v (eqV y x):=by
 cases y with
 |non=>
  cases e;cases x with
  |non=>cases c;exact SeqAt.EqAt.same _
  |bl b=>cases c;exact SeqAt.EqAt.none_bool b
  |int b=>obtain⟨t,rfl⟩:=c;exact SeqAt.EqAt.none_int b t
  |str b=>obtain⟨t,rfl⟩:=c;exact SeqAt.EqAt.none_str b t
  |_=>exact absurd (show false=true from d) zP9
 |bl a=>
  cases e;cases x with
  |non=>cases c;exact SeqAt.EqAt.bool_none a
  |bl b=>cases c;exact SeqAt.EqAt.bool_bool a b
  |int b=>obtain⟨t,rfl⟩:=c;exact SeqAt.EqAt.bool_int a b t
  |str b=>obtain⟨t,rfl⟩:=c;exact SeqAt.EqAt.bool_str a b t
  |_=>exact absurd (show false=true from d) zP9
 |int a=>
  obtain⟨t',rfl⟩:=e;cases x with
  |non=>cases c;exact SeqAt.EqAt.int_none a t'
  |bl b=>cases c;exact SeqAt.EqAt.int_bool a t' b
  |int b=>obtain⟨t,rfl⟩:=c;exact SeqAt.EqAt.int_int a t' b t
  |str b=>obtain⟨t,rfl⟩:=c;exact SeqAt.EqAt.int_str a t' b t
  |_=>exact absurd (show false=true from d) zP9
 |str a=>
  obtain⟨t',rfl⟩:=e;cases x with
  |non=>cases c;exact SeqAt.EqAt.str_none a t'
  |bl b=>cases c;exact SeqAt.EqAt.str_bool a t' b
  |int b=>obtain⟨t,rfl⟩:=c;exact SeqAt.EqAt.str_int a t' b t
  |str b=>obtain⟨t,rfl⟩:=c;exact SeqAt.EqAt.str_str a t' b t
  |_=>exact absurd (show false=true from d) zP9
 |_=>exact absurd (show false=true from f) zP9
def eqU (x:V)(u:Value):Bool:=match u with
 |.none=>eqV .non x
 |.bool b=>eqV (.bl b) x
 |.int i _=>eqV (.int i) x
 |.str z _=>eqV (.str z) x
 |_=>false
theorem bf {x y:V}{u:Value}(r:RelV y u)(f:vw y=true):eqU x u=eqV y x:=by
 cases y with
 |non=>cases r;rfl
 |bl b=>cases r;rfl
 |int i=>obtain⟨t,rfl⟩:=r;rfl
 |str z=>obtain⟨t,rfl⟩:=r;rfl
 |_=>exact absurd (show false=true from f) zP9
theorem jc {x:V}{xs:List V}{us:List Value}(h:Vals xs us)(f:xs.all vw=true):us.any (eqU x)=xs.any λy=>eqV y x:=by
 induction h with
 |nil=>rfl
 |cons r _ c=>
  rw[z97,zR5]at f;rw[z52,z52,bf r f.1,c f.2]
theorem rK {A:Around}{s:Shared}{x:V}{v:Value}(d:RelV x v)(e:vw x=true):∀{xs:List V}{us:List Value},Vals xs us->xs.all vw=true->∀u∈us,SeqAt.EqAt A s u v (eqU x u)
 |_,_,.nil,_=>λu c=>by cases c
 |y::xs,u::us,.cons r t,f=>λg c=>by
  rw[z97,zR5]at f;rcases zN6.mp c with rfl|c
  ·rw[bf r f.1];exact zv8 r d f.1 e
  ·exact rK d e t f.2 g c
def inV (x:V)(xs:List V):Bool:=xs.any λy=>eqV y x
def rIn (K:PySem.W.Frag)(neg:Bool):R2:=λx y H Q=>∃p xs,y=.ref p/\(SqL K H p xs\/SqT K H p xs)/\vw x=true/\xs.all vw=true/\Q (.bl (if neg then !inV x xs else inV x xs)) H
theorem ip :OpR X (compareOp .In) (rIn X.K false):=by
 intro pins s σ H x y v u Q I c e h;obtain⟨p,xs,rfl,hq,d,fs,q⟩:=h;cases e;rcases hq with hq|hq
 ·obtain⟨its,r,pl,hz⟩:=I.list hq;refine SeqAt.in_listAt (eqU x) pl.isList (λw hw=>rK c d r fs w (by simpa using hw)) ⟨.bl _,H,I,rfl,?_⟩;rw[show its.toArray.any (eqU x)=its.any (eqU x) by simp,jc r fs];exact q
 ·obtain⟨its,r,pl,hz⟩:=I.tuple hq;refine SeqAt.in_tupleAt (eqU x) pl (λw hw=>rK c d r fs w (by simpa using hw)) ⟨.bl _,H,I,rfl,?_⟩;rw[show its.toArray.any (eqU x)=its.any (eqU x) by simp,jc r fs];exact q
theorem pM :xl X (.builtin "len") (λxs H Q=>∃p ys,xs=[.ref p]/\(SqL X.K H p ys\/SqT X.K H p ys)/\Q (.int ys.length) H):=by
 intro pins s σ H xs us Q I r h;obtain⟨p,ys,rfl,hq,q⟩:=h;obtain⟨u,rfl,d⟩:=vals1 r;cases d;have hn:=uD;rcases hq with hq|hq
 ·obtain⟨its,c,pl,hz⟩:=I.list hq;have hlen:=c.length;exact Calls.call_len_list pl.isList (by simp only[zO3]<;>exact zn4 hn hlen hz) ⟨.int ys.length,H,I.tok _,⟨s.toks+1,by rw[zO3,hlen]⟩,q⟩
 ·obtain⟨its,c,pl,hz⟩:=I.tuple hq;have hlen:=c.length;exact len_tuple pl (by simp only[zO3]<;>exact zn4 hn hlen hz) ⟨.int ys.length,H,I.tok _,⟨s.toks+1,by rw[zO3,hlen]⟩,q⟩
theorem pV :xl X (.type "list") (λxs H Q=>∃p ys,xs=[.ref p]/\(SqL X.K H p ys\/SqT X.K H p ys)/\∀l,H l=none->Q (.ref l) (upd H l (.lst ys))):=by
 intro pins s σ H xs us Q I r h;obtain⟨p,ys,rfl,hq,q⟩:=h;obtain⟨u,rfl,g⟩:=vals1 r;cases g;have fin:∀(its:List Value),Vals ys its->ys.length<=sizeLine->∀(h':Heap) (c':Nat),(∀b o',s.heap.get? b=some o'->h'.get? b=some o')->
   h'.get? s.heap.objs.size=some {cls:=.type "list",dict:=none,data:=.seq its.toArray c',slots:=#[]}->EP X pins σ Q (.ref s.heap.objs.size) {s with heap:=h'}:=λits c hz h' c' kp e=>
  ⟨.ref s.heap.objs.size,_,I.laid (t':=s.toks) kp (zN5 _) (show zT X.prog X.w _ h' _ (.lst ys)from⟨hz,its,c',c,e⟩),rfl,q _ (I.hok.fresh (zN5 _))⟩
 rcases hq with hq|hq
 ·obtain⟨its,c,pl,hz⟩:=I.list hq;have hlen:=c.length;obtain⟨o,d,f,n,hd⟩:=pl.isList;exact call_list_seq p (.inl rfl) d f hd (λh' c' kp e=>fin its c hz h' c' kp e) (by simp only[zO3]<;>exact zO0 (zO9 hlen.symm) hz)
 ·obtain⟨its,c,pl,hz⟩:=I.tuple hq;have hlen:=c.length;obtain⟨o,d,f,n,hd⟩:=pl;exact call_list_seq p (.inr rfl) d f hd (λh' c' kp e=>fin its c hz h' c' kp e) (by simp only[zO3]<;>exact zO0 (zO9 hlen.symm) hz)
def tyV (K:PySem.W.Frag)(T:String)(x:V)(H:Hp):Prop:=match x with
 |.str _=>T="str"
 |.int _=>T="int"
 |.ref p=>(T="list"/\∃xs,SqL K H p xs)\/(T="tuple"/\∃o,K.lookup p=some o/\o.cls=.type "tuple"/\o.dict=none)\/
   (T="dict"/\((∃kvs,H p=some (.dK kvs))\/∃kvs,H p=some (.dT kvs)))\/(T="set"/\∃S n,H p=some (.set S n))
 |_=>False
theorem zt7 {pins:List (Addr×Obj)}{σ:St}{H:Hp}{s:Shared}{T:String}{x:V}{v:Value}(I:Inv X pins σ H s)(r:RelV x v)(ty:tyV X.K T x H):
  s.TypeIs v T/\∀a,v=.ref a->∃ob,s.heap.get? a=some ob/\ob.dict=none:=by
 cases x with
 |str z=>
  obtain⟨t,rfl⟩:=r;cases(show T="str" from ty);exact⟨typeIs_str s z t,λ_ e=>nomatch e⟩
 |int i=>
  obtain⟨t,rfl⟩:=r;cases(show T="int" from ty);exact⟨typeIs_int s i t,λ_ e=>nomatch e⟩
 |ref p=>
  cases r;rcases ty with⟨rfl,xs,hq⟩|⟨rfl,o,hk,f,hd⟩|⟨rfl,hk⟩|⟨rfl,S,n,hk⟩
  ·obtain⟨its,_,pl,_⟩:=I.list hq;refine⟨pl.isList.typeIs,λa e=>?_⟩;cases e;obtain⟨o,n,e,c,hd,_⟩:=pl;exact⟨o,e,hd⟩
  ·refine⟨⟨o,I.kIn p o hk,f⟩,λa e=>?_⟩;cases e;exact⟨o,I.kIn _ o hk,hd⟩
  ·have z:∃o,s.heap.get? p=some o/\o.ExactDict:=by
    rcases hk with⟨kvs,hk⟩|⟨kvs,hk⟩
    ·obtain⟨_,_,_,_,o,_,_,e,ex,_⟩:=I.hok p _ hk;exact⟨o,e,ex⟩
    ·obtain⟨_,_,_,_,o,_,_,e,ex,_⟩:=I.hok p _ hk;exact⟨o,e,ex⟩
   obtain⟨o,e,ex⟩:=z;refine⟨⟨o,e,ex.1⟩,λa d=>?_⟩;cases d;exact⟨o,e,ex.2.1⟩
  ·obtain⟨o,_,_,_,e,ex,_⟩:=I.hok p _ hk;refine⟨⟨o,e,ex.1⟩,λa d=>?_⟩;cases d;exact⟨o,e,ex.2.1⟩
 |_=>exact False.elim ty
def tBM (K:PySem.W.Frag)(T:String)(r:V->List V->Hp->VK->Prop)(to:TE)(t:TA):TE:=λσ H Q=>to σ H λx H1=>tyV K T x H1/\t σ H1 λxs c=>r x xs c Q
variable {o e:Expr}{es:List Expr}{to:TE}{t:TA}{name:Str}{apos cpos:Pos}{T id:String}{r:V->List V->Hp->VK->Prop}
theorem jV (u:PlainAttrs T)(slot:Slot T name id)(k:typeOf (.builtin id)=pure (.type "method_descriptor"))(hm:MtR X id r)(B:PE X o to)(ha:PA X (e::es) t)
  (f:attributeBase o name X.env (eval o X.env)=eval o X.env:=by rfl)
  (i:((backTo cpos (starEach (e::es) X.env)).all (λx=>!x.1)&&(backToKw cpos (keywordEach [] X.env)).all (λx=>x.1.isSome)
   &&decide ((e::es).length+([]:List Keyword).length+(if([]:List Keyword).isEmpty then 0 else 1)<30))=true:=by rfl)
  (d:(apos.endLine == cpos.line)=true:=by rfl) (p:starEach (e::es) X.env=(false,eval e X.env)::starEach es X.env:=by rfl) (c:(backTo cpos (starEach es X.env)).any (·.1)=false:=by rfl):
  PE X (.Call (.Attribute o name apos) (e::es) [] cpos) (tBM X.K T r to t):=by
 intro pins s σ H Q I h;refine wpAny_Call_method_late f i d rfl (thn (B pins s σ H _ I h) λv s1 j=>?_);obtain⟨x,H1,l,n,ty,y⟩:=j;obtain⟨w,D⟩:=zt7 l n ty;refine⟨T,id,u,slot,k,w,D,?_⟩;have m:=ha cpos pins s1 σ H1 _ l y;rw[p]at m ⊢;refine Calls.callWith_builtin (by show(false||(backTo cpos (starEach es X.env)).any (·.1))=false;rw[c]<;>rfl) (Calls.evalArgs_plain ?_);exact thn m λus s2 g=>by obtain⟨vs,z,q,C,A⟩:=g;exact hm pins s2 σ z x vs v us Q q n C A
/- xs.append(e),list.index on a module's tuple .. are MtR facts of 06m -/
end
def MtM (X:Cx)(id:String)(r:V->List V->Hp->VK->Prop):Prop:=
 ∀(pins:List (Addr×Obj)) (s:Shared) (σ:St) (H:Hp) (x:V) (xs:List V) (v:Value) (us:List Value) (Q:VK),Inv X pins σ H s->RelV x v->Vals xs us->r x xs H Q->
  wpAny (model X.prog X.w) X.A (call (.builtin id) (v::us)) (EP X pins σ Q) X.xe s
theorem Vals.one {x:V}{us:List Value}(h:Vals [x] us):∃u,us=[u]/\RelV x u:=by
 cases h with
 |cons r q=>cases q;exact⟨_,rfl,r⟩
theorem Vals.two {x y:V}{us:List Value}(h:Vals [x,y] us):∃u v,us=[u,v]/\RelV x u/\RelV y v:=by
 cases h with
 |cons r q=>
  cases q with
  |cons q z=>cases z;exact⟨_,_,rfl,r,q⟩
theorem Vals.eraseIdx :∀{xs:List V}{us:List Value} (i:Nat),Vals xs us->Vals (xs.eraseIdx i) (us.eraseIdx i)
 |_,_,_,.nil=>.nil
 |_,_,0,.cons _ t=>t
 |_,_,i+1,.cons r t=>.cons r (Vals.eraseIdx i t)
theorem qV {α:Type}:∀(l:List α) (i:Nat),(l.eraseIdx i).length<=l.length
 |[],_=>zN5 _
 |_::_,0=>zX8 _
 |_::r,i+1=>Nat.succ_le_succ (qV r i)
section
variable {X:Cx}{pins:List (Addr×Obj)}{σ:St}{H:Hp}{s:Shared}{l b:Addr}{xs ys zs:List V}
theorem Inv.lset {its its':List Value}{n:Nat}{f:Array Value->Array Value}{t':Nat}(I:Inv X pins σ H s)(d:H l=some (.lst xs))
  (e:s.heap.get? l=some {cls:=.type "list",data:=.seq its.toArray n}) (hf:f its.toArray=its'.toArray) (c:Vals ys its') (hz:ys.length<=sizeLine):
  Inv X pins σ (upd H l (.lst ys)) {s with heap:=s.heap.update l (Obj.mapSeq f),toks:=t'}:=by
 have q:=PySem.IsL.update e f;rw[hf]at q;refine I.write (x:=l) (e:=l) (by rw[d];exact trivial) (.inl rfl) (λg u hb a=>(zS4 s.heap (Obj.mapSeq f) (zS3 hb)).trans a) ⟨_,q⟩ ?_;exact⟨hz,its',_,c,q⟩
theorem Inv.lnew {its:List Value}{t':Nat}(I:Inv X pins σ H s)(a:Vals ys its)(hz:ys.length<=sizeLine):
  Inv X pins σ (upd H s.heap.objs.size (.lst ys)) {s with heap:=s.heap.push {cls:=.type "list",data:=.seq its.toArray},toks:=t'}:=
 I.laid (λ_ _ q=>zM9 _ q) (zN5 _) ⟨hz,its,0,a,zO2 _ rfl⟩
theorem Inv.fresh (I:Inv X pins σ H s):H s.heap.objs.size=none:=I.hok.fresh (zN5 _)
theorem Inv.lstM (I:Inv X pins σ H s)(a:H l=some (.lst xs)):xs.length<=sizeLine/\∃(its:List Value) (n:Nat),Vals xs its/\xs.length=its.length/\s.heap.get? l=some {cls:=.type "list",data:=.seq its.toArray n}:=by
 obtain⟨z,its,n,r,e⟩:=I.hok l _ a;exact⟨z,its,n,r,r.length,e⟩
theorem bF {n:Nat}(h:n<=sizeLine):Builtin.List.listTooLong n=false:=by
 unfold Builtin.List.listTooLong;exact zQ3 (Nat.not_lt_of_le h)
end
section
variable {X:Cx}
def zd0 :V->List V->Hp->VK->Prop:=λx vs H Q=>∃l xs y,x=.ref l/\vs=[y]/\H l=some (.lst xs)/\xs.length<sizeLine/\Q .non (upd H l (.lst (xs++[y])))
theorem qx :MtM X "list.append" zd0:=by
 intro pins s σ H x vs v us Q I c b h;obtain⟨l,xs,y,rfl,rfl,a,hz,q⟩:=h;cases c;obtain⟨u,rfl,f⟩:=b.one;obtain⟨z,its,n,r,d,e⟩:=I.lstM a;refine call_meets F.slot_list_append ⟨_,e,rfl⟩ F.entry_list_append (F.args_list_append_2 _ _) (PySem.list_append l its.toArray n u (by rw[zO3];exact zR4 (zP5 (zO9 d.symm) hz))) ⟨e,?_⟩;refine⟨.non,_,I.lset (its':=its++[u]) a e (by simp) (r.append (.cons f .nil)) ?_,rfl,q⟩;rw[zQ5,List.length_singleton];exact hz
def zc8 :V->List V->Hp->VK->Prop:=λx vs H Q=>∃l b xs zs,x=.ref l/\vs=[.ref b]/\H l=some (.lst xs)/\H b=some (.lst zs)/\xs.length+zs.length<=sizeLine/\Q .non (upd H l (.lst (xs++zs)))
theorem gj :MtM X "list.extend" zc8:=by
 intro pins s σ H x vs v us Q I o j h;obtain⟨l,b,xs,zs,rfl,rfl,g,p,hz,q⟩:=h;cases o;obtain⟨u,rfl,k⟩:=j.one;cases k;obtain⟨z,its,n,r,i,e⟩:=I.lstM g;obtain⟨w,a,n2,t,f,m⟩:=I.lstM p;have d:its.toArray.size+a.toArray.size<=sizeLine:=by rw[zO3,zO3];exact zl7 hz i f
 have c:¬(!its.toArray.isEmpty&&Builtin.List.listTooLong (its.toArray.size+a.toArray.size))=true:=by
  rw[bF d,Bool.and_false];exact zP9
 refine call_meets F.slot_list_extend ⟨_,e,rfl⟩ F.entry_list_extend (F.args_list_extend_2 _ _)
  (AutoSeq1.list_extend_list_list_0 l its.toArray n b a.toArray n2 c (by rw[zO3];exact zO0 (zO9 i.symm) z) (zO0 d (zP2 _ _))) ⟨e,m,?_⟩
 refine⟨.non,_,I.lset (its':=its++a) g e (by simp) (r.append t) ?_,rfl,q⟩;rw[zQ5];exact hz
def zx7 :V->List V->Hp->VK->Prop:=λx vs H Q=>∃l xs i k y,x=.ref l/\vs=[.int i]/\H l=some (.lst xs)/\-(2 ^ 63)<=i/\i<2 ^ 63/\seqIndex? i xs.length=some k/\xs[k]?=some y/\Q y (upd H l (.lst (xs.eraseIdx k)))
theorem eA :MtM X "list.pop" zx7:=by
 intro pins s σ H x vs v us Q I f d h;obtain⟨l,xs,i,k,y,rfl,rfl,b,g,m,hk,hy,q⟩:=h;cases f;obtain⟨u,rfl,j⟩:=d.one;obtain⟨t,rfl⟩:=j;obtain⟨z,its,n,r,c,e⟩:=I.lstM b;obtain⟨w,hw,a⟩:=r.get hy;refine call_meets F.slot_list_pop ⟨_,e,rfl⟩ F.entry_list_pop (F.args_list_pop_2 _ _)
  (MeetsSeq.list_pop_at l its.toArray n i t k w (fitsIndex_both g m) (by rw[zO3,<-c];exact hk) (by rw[<-zY1];exact hw) (by rw[zO3];exact zO0 (zO9 c.symm) z)) ⟨e,?_⟩
 refine⟨y,_,I.lset (its':=its.eraseIdx k) b e ?_ (r.eraseIdx k) ?_,a,q⟩
 ·show its.toArray.eraseIdxIfInBounds k=(its.eraseIdx k).toArray;rw[List.eraseIdxIfInBounds_toArray]
 ·have:=qV xs k;exact zO0 this z
def zL2 :R2:=λx y H Q=>∃l b xs zs,x=.ref l/\y=.ref b/\H l=some (.lst xs)/\H b=some (.lst zs)/\xs.length+zs.length<=sizeLine/\∀p,H p=none->Q (.ref p) (upd H p (.lst (xs++zs)))
theorem bE :OpR X (binaryOp .Add) zL2:=by
 intro pins s σ H x y v u Q I g o h;obtain⟨l,b,xs,zs,rfl,rfl,f,i,hz,q⟩:=h;cases g;cases o;obtain⟨z,its,n,r,j,e⟩:=I.lstM f;obtain⟨p,a,n2,k,c,m⟩:=I.lstM i;refine PySem.P.add_list e m ?_ (by rw[zO3,zO3];exact zl7 hz j c);have d:its.toArray++a.toArray=(its++a).toArray:=by simp
 rw[d];exact⟨.ref _,_,I.lnew (t':=s.toks) (r.append k) (by rw[zQ5];exact hz),rfl,q _ I.fresh⟩
end
section
variable {prog:Program}{w:World}{A:Around}{E:Value->Shared->Prop}{s:Shared}
end
section
variable {X:Cx}
end
end L2
namespace Att
open PySem PySem.W PySem.Calls PyProof.Rows
theorem tJ {P:Params}{h:Heap}:∀(ns:List Int) (vs:List Value),WellAll P h vs (ns.map WData.int)->IntsAre vs ns:=by
 intro ns
 induction ns with
 |nil=>
  intro vs w;rw[List.map_nil]at w;cases w;exact .nil
 |cons n ns c=>
  intro vs w;rw[zR6]at w;cases w with
  |cons a b=>
   cases a;exact .cons _ _ (c _ b)
theorem gC {l:OpenLaw}{n:Nat}(hn:l.most=some n){P:Params}{h:Heap}{args:List WData}{vals:List Value}
  (b:l.row.toRowW.claim.pre args=true) (g:WellAll P h vals args):
  ∃a vs ns,vals=[Value.ref a]/\args=[WData.list (ns.map WData.int)]/\h.get? a=some {cls:=.type "list",data:=.seq vs.toArray}/\IntsAre vs ns/\ns.length<=n:=by
 have i:WShape.hasAll [] args [.list .int]=true:=(pre_splitW b).1;have j:l.pre.holds [] {args:=args}=true:=(pre_splitW b).2;obtain⟨d,r,rfl,p,s⟩:=hasAllW_cons i;obtain rfl:=hasAllW_nil s;obtain⟨xs,rfl,k⟩:=hasW_list p;obtain⟨ns,rfl⟩:=items_int k;have hlen:ns.length<=n:=by
  unfold OpenLaw.pre at j;have f:(WTm.not (.lt (.lit (.int (n:Int))) (.len (.arg 0)))).holds [] {args:=[.list (ns.map .int)]}=true:=by
   have f:=(holds_andW j).1;rw[hn]at f;exact f
  have e:=condW_of f (w_not (w_lt w_lit (w_len_list (w_arg rfl))));rw[zN0]at e;refine zV2 λq=>?_;have t:(n:Int)<((ns.length:Nat):Int):=(Int.ofNat_lt.2 q)
  first
   |(rw[zS0 t]at e;exact absurd e (by decide))
   |(simp at e;omega)
 cases g with
 |cons u o=>
  cases o;cases u with
  |list m c=>exact⟨_,_,ns,rfl,rfl,m,tJ ns _ c,hlen⟩
theorem gn (l:OpenLaw)(args:List WData):l.row.toRowW.claim.post args (.bool true) args=true:=
 postW_of (r:=l.row.toRowW) (X:=(true == true))
  (show WShape.has [] (.bool true) .bool=true by first|rfl|decide|simp[WShape.has,WShape.arms,WShape.armsAll])
  (show(WTm.eq .res (.lit (.bool true))).value [] {args:=args,res:=some (.bool true),after:=args}=some (.bool (true == true))from w_eq_bool (w_res rfl) w_lit) rfl
theorem attach_call {l:OpenLaw}{n:Nat}{q:Program}{loose:List Str}{s:(Str->Option Value)->Heap->Prop}{m:World->Heap->Prop}{d:DefRec}
  (hn:l.most=some n) (hdf:d.params.defaults=[])
  (call:∀(w:World) (s₀ b:Shared) (mg mb:Str->Option Value) (e:Addr) (o:Obj) (pm cd doc:Value) (a:Addr) (vs:List Value) (ns:List Int),
   Ground q loose [] s w s₀ mg mb b.heap->m w b.heap->
   b.heap.get? e=some o->o.data=.func (docDef d.name d.params d.body d.scope pm cd doc)->b.heap.CodeRec cd d.name->mg d.name=some (.ref e)->
   b.heap.get? a=some {cls:=.type "list",data:=.seq vs.toArray}->IntsAre vs ns->ns.length<=n->b.gens=#[]->
   codeAny (model l.prog w) callerA (.call (.ref e) ⟨[.ref a],[]⟩) (λr s'=>r=.ok (.ret (.bool true))/\OldK b.heap s'.heap/\s'.os=b.os/\AllBare s'.gens) b):
  WalkO q loose s m l.row.toRowW d [] (λf vs=>PySem.call f vs):=by
 intro w s₀ b mg mb G Y e o pm cd doc dV kV v hd j k i hg args vals as c p x h t;obtain rfl:dV=.none:=Dflts.none k hdf;obtain rfl:kV=.none:=Dflts.noKw k;obtain⟨a,vs,ns,rfl,rfl,g,hints,hlen⟩:=gC hn c h;refine enter_call (z44 (call w s₀ b mg mb e o pm cd doc a vs ns G Y v (fd_plain hd) j i g hints hlen hg) λr s' hq=>?_);obtain⟨rfl,y,u,z⟩:=hq;exact⟨.inl ⟨.bool true,.bool true,[],rfl,λ_=>rfl,.bool true,gn l _,λ_=>⟨List.Pairwise.nil,λ_ hm=>(nomatch hm)⟩⟩,y,u,z⟩
section
variable {prog:Program}{w:World}{A:Around}{E:Value->Shared->Prop}{s:Shared}{K:Frag}
end
end Att
namespace L2
open PySem PySem.Spec PyProof.Rows
theorem gW {vs:List Value}{ns:List Int}(h:IntsAre vs ns):Vals (ns.map V.int) vs:=by
 induction h with
 |nil=>exact .nil
 |cons n t _ a=>exact .cons ⟨t,rfl⟩ a
def inClass (s:Stmt)(j:Nat):Stmt:=match s with
 |.ClassDef _ _ _ body _ _ _ _ _ _ _=>body.getD j (.Pass ⟨0,0,0,0⟩)
 |_=>.Pass ⟨0,0,0,0⟩
def zP (s:Stmt):Arguments:=match s with
 |.FunctionDef _ a _ _ _ _ _ _ _ _=>a
 |_=>{posonlyargs:=[],args:=[],vararg:=none,kwonlyargs:=[],kw_defaults:=[],kwarg:=none,defaults:=[]}
def zv (s:Stmt):List Stmt:=match s with
 |.FunctionDef _ _ b _ _ _ _ _ _ _=>b
 |_=>[]
def zg (s:Stmt):Scope:=match s with
 |.FunctionDef _ _ _ _ _ _ sc _ _ _=>sc
 |_=>{kind:=.function,names:=[],isGenerator:=false,isCoroutine:=false}
abbrev CX0 :CXT:=λ_ _ _ _ _ _=>False
abbrev E0 :XK:=λ_ _ _=>False
theorem nF {X:Cx}:Passes CX0 X E0:=λ_ _ _ _ _ _ _ h=>h.elim
structure Fun (K:PySem.W.Frag)(x qual:Str)(st:Stmt)(f:Addr)(fd:FuncData):Prop where
 ex:∃(oc:Value) (od:Option Addr) (kV doc pm:Value) (an:Option Addr) (cdv ct:Value) (osl:Array (Option Value)),
  fd=PySem.W.fnOf x qual (zP st) (zv st) (zg st) .none kV doc pm an cdv ct/\K.lookup f=some ⟨oc,od,.func fd,osl⟩/\PySem.W.codeIn K cdv qual=true
 kp:PySem.W.keepIn K (.ref f)=true
section
variable {P:Program}{w:World}{K:PySem.W.Frag}{mg:Str->Option Value}{base:Heap}
theorem Fun.ok {x qual:Str}{st:Stmt}{f:Addr}{fd:FuncData}{N ps:List Str}{k:Nat}{sp:Sp}(F:Fun K x qual st f fd)(S:zW N ps (zg st))(len:∀vs H Q E,sp vs H Q E->vs.length=ps.length)
  (a:∀(cdv:Value) (A:Around) (outer:List Env) (s:Shared) (H:Hp) (vs:List V) (Q:VK) (E:XK),zN k (A.deeper (envOfC qual (zg st) s.heap.objs.size f cdv))->sp vs H Q E->
   ∃t,PSs (wx CX0 P w K mg base N qual (zg st) f cdv A outer s H E).nox (zv st) t/\t {nx:=λ_ H'=>Q .non H',rt:=Q} (start N vs) H):yK P w K mg base CX0 (k+1) f fd ps sp:=by
 obtain⟨oc,od,kV,doc,pm,an,cdv,ct,osl,rfl,d,c⟩:=F.ex;refine eQ d c S len λA outer s H vs Q E hr b=>?_;obtain⟨t,h,q⟩:=a cdv A outer s H vs Q E hr b;exact⟨t,h.nox,q⟩
theorem Fun.binds {x qual:Str}{st:Stmt}{f:Addr}{fd:FuncData}{ps:List Str}(F:Fun K x qual st f fd)
  (h:∀(kV doc pm:Value) (an:Option Addr) (cdv ct:Value) (us:List Value),us.length=ps.length->bindArgs (PySem.W.fnOf x qual (zP st) (zv st) (zg st) .none kV doc pm an cdv ct) ⟨us,[]⟩=pure (ps.zip us)):Binds K fd ps []:=by
 obtain⟨oc,od,kV,doc,pm,an,cdv,ct,osl,rfl,b,a⟩:=F.ex;exact .all (h kV doc pm an cdv ct)
theorem pO {x qual:Str}{st:Stmt}{f:Addr}{oc:Value}{od an:Option Addr}{osl:Array (Option Value)}{kV doc pm cdv ct:Value}(l:K.lookup f=some ⟨oc,od,.func (PySem.W.fnOf x qual (zP st) (zv st) (zg st) .none kV doc pm an cdv ct),osl⟩)
  (c:PySem.W.codeIn K cdv qual=true) (k:PySem.W.keepIn K (.ref f)=true):Fun K x qual st f (PySem.W.fnOf x qual (zP st) (zv st) (zg st) .none kV doc pm an cdv ct):=⟨⟨oc,od,kV,doc,pm,an,cdv,ct,osl,rfl,l,c⟩,k⟩
end
theorem yk {n:Nat}(h:n<=1000):n<sizeLine:=zP5 h (by decide)
section
variable {X:Cx}
theorem pv (i:Nat){x:Str}{pos:Pos}(c:X.N[i]?=some x:=by rfl)(b:Vis X.env.scope x:=by first|exact Or.inl rfl|exact Or.inr (Or.inl rfl)|exact Or.inr (Or.inr rfl))(hd:(x == ("__debug__":Str))=false:=by decide)
  (a:(x == ("__classdict__":Str))=false:=by decide):PE X (.Name x pos) (cb i):=yw c b hd a
end
theorem rh {A B:Prop}(h:B):if false=true then A else B:=by
 rw[if_neg zP9];exact h
theorem sQ {A B:Prop}(h:A):if true=true then A else B:=by
 rw[if_pos rfl];exact h
theorem zK0 {c A B:Prop}[Decidable c](a:c->A)(b:¬c->B):if c then A else B:=by
 by_cases h:c
 ·rw[if_pos h];exact a h
 ·rw[if_neg h];exact b h
def zt (H H':Hp):Prop:=∀b o,H b=some o->H' b=some o
theorem zt.refl (H:Hp):zt H H:=λ_ _ h=>h
theorem zt.trans {H H1 d:Hp}(a:zt H H1)(b:zt H1 d):zt H d:=λc o h=>b c o (a c o h)
def vJ (cells:List (Str×Addr)):List (Str×NameKind)->List (Str×Addr)->List (Str×Addr)
 |[],acc=>acc
 |(n,k)::r,acc=>vJ cells r (if k=.free then(n,(cells.lookup n).getD 0)::acc else acc)
theorem vt {env:Env}{scope:Scope}(h:∀y∈scope.names,y.2=.free->∃c,env.cells.lookup y.1=some c):
  closureFor scope env=pure (vJ env.cells scope.names []):=by
 have key:∀(ns:List (Str×NameKind)) (acc:List (Str×Addr)),(∀y∈ns,y.2=.free->∃c,env.cells.lookup y.1=some c)->
   (forIn ns acc λ(x:Str×NameKind) (r:List (Str×Addr))=>(if(x.2 == NameKind.free)=true then(do let a <-cellOf env x.1;pure (ForInStep.yield ((x.1,a)::r)))else pure (ForInStep.yield r):Sem (ForInStep (List (Str×Addr)))))=pure (vJ env.cells ns acc):=by
  intro ns
  induction ns with
  |nil=>intro acc _;rfl
  |cons y r d=>
   intro acc hy;obtain⟨n,k⟩:=y;rw[z83];have hr:∀z∈r,z.2=.free->∃c,env.cells.lookup z.1=some c:=λz hz=>hy z (zN7 _ hz);by_cases hk:k=.free
   ·subst hk;obtain⟨c,e⟩:=hy (n,.free) zO1 rfl;have e1:cellOf env n=pure c:=by
     unfold cellOf;rw[e]
    have b:((NameKind.free == NameKind.free)=true):=rfl;simp only[b,z45,e1,pure_bind];rw[d _ hr];show _=pure (vJ env.cells r (if NameKind.free=NameKind.free then(n,(env.cells.lookup n).getD 0)::acc else acc));rw[if_pos rfl,e];rfl
   ·have b:(k == NameKind.free)=false:=by simpa using hk
    simp only[b,zY2,z49,pure_bind];rw[d _ hr];show _=pure (vJ env.cells r (if k=NameKind.free then(n,(env.cells.lookup n).getD 0)::acc else acc));rw[if_neg hk]
 have q:=key scope.names [] h;unfold closureFor;simp only[]at q ⊢;rw[show(forIn scope.names ([]:List (Str×Addr)) λ(x:Str×NameKind) (r:List (Str×Addr))=>_)=_ from q];rfl
theorem ma {cells:List (Str×Addr)}:∀(ns:List (Str×NameKind)) (acc:List (Str×Addr)),(∀y∈ns,y.2=.free->∃c,cells.lookup y.1=some c)->
  ∀x c,(x,c)∈vJ cells ns acc->(x,c)∈acc\/((x,NameKind.free)∈ns/\cells.lookup x=some c)
 |[],acc,_,x,c,h=>.inl h
 |(n,k)::r,acc,hy,x,c,h=>by
  have hr:∀z∈r,z.2=.free->∃c,cells.lookup z.1=some c:=λz hz=>hy z (zN7 _ hz);have h':(x,c)∈vJ cells r (if k=.free then(n,(cells.lookup n).getD 0)::acc else acc):=h;rcases ma r _ hr x c h' with q|⟨g,d⟩
  ·by_cases hk:k=.free
   ·rw[if_pos hk]at q;rcases zN6.mp q with e|q
    ·obtain⟨c',i⟩:=hy (n,k) zO1 hk;have e1:x=n:=congrArg Prod.fst e;have b:c=(cells.lookup n).getD 0:=congrArg Prod.snd e;have a:cells.lookup n=some c':=i;rw[a]at b;have f:c=c':=b;subst e1 f hk;exact .inr ⟨zO1,a⟩
    ·exact .inl q
   ·rw[if_neg hk]at q;exact .inl q
  ·exact .inr ⟨zN7 _ g,d⟩
theorem oI {cells:List (Str×Addr)}:∀(ns:List (Str×NameKind)) (acc:List (Str×Addr)) (p:Str×Addr),p∈acc->p∈vJ cells ns acc
 |[],_,_,h=>h
 |(n,k)::r,acc,p,h=>by
  show p∈vJ cells r (if k=.free then(n,(cells.lookup n).getD 0)::acc else acc);refine oI r _ p ?_;split
  ·exact zN7 _ h
  ·exact h
theorem oT {cells:List (Str×Addr)}:∀(ns:List (Str×NameKind)) (acc:List (Str×Addr)) (x:Str),(x,NameKind.free)∈ns->∃c,(x,c)∈vJ cells ns acc
 |[],_,_,h=>by simp at h
 |(n,k)::r,acc,x,h=>by
  show ∃c,(x,c)∈vJ cells r (if k=.free then(n,(cells.lookup n).getD 0)::acc else acc);rcases zN6.mp h with e|h
  ·have e1:x=n:=congrArg Prod.fst e;have a:NameKind.free=k:=congrArg Prod.snd e;subst e1 a;rw[if_pos rfl];exact⟨_,oI r _ _ zO1⟩
  ·exact oT r _ x h
theorem mem_lookup {x:Str}{c:Addr}:∀{l:List (Str×Addr)},(x,c)∈l->∃d,l.lookup x=some d
 |[],h=>by simp at h
 |(n,a)::r,h=>by
  rw[zT4];cases e:x == n with
  |true=>exact⟨a,rfl⟩
  |false=>
   rcases zN6.mp h with q|q
   ·have e1:x=n:=congrArg Prod.fst q;rw[e1]at e;simp at e
   ·exact mem_lookup q
structure zI (XN:List Str)(xs:Scope)(N:List Str)(imp:List (Option Nat))(scope:Scope):Prop where
 kind:scope.kind=.function
 nd:N.Nodup
 nocell:∀y∈scope.names,y.2≠.cell
 locs:∀y∈scope.names,y.2=.local->scope.names.lookup y.1=some .local
 frees:∀y∈scope.names,y.2=.free->xs.names.lookup y.1=some .cell\/xs.names.lookup y.1=some .free
 len:imp.length=N.length
 impsB:((imp.zip N).all λp=>match p.1 with|none=>true|some j=>XN[j]? == some p.2&&scope.names.lookup p.2 == some .free)=true
theorem zI.imps {XN N:List Str}{xs scope:Scope}{imp:List (Option Nat)}(S:zI XN xs N imp scope):∀(i j:Nat),imp[i]?=some (some j)->∃x,N[i]?=some x/\XN[j]?=some x/\scope.names.lookup x=some .free:=by
 intro i j h;have hi:i<imp.length:=(zN8.mp h).1;have hn:i<N.length:=by rw[<-S.len];exact hi
 have b:N[i]?=some N[i]:=zN2 hn;have hm:(some j,N[i])∈imp.zip N:=by
  have hz:(imp.zip N)[i]?=some (some j,N[i]):=by
   rw[List.getElem?_zip_eq_some];exact⟨h,b⟩
  exact zR1 hz
 have q:=z27.mp S.impsB _ hm;have a:(XN[j]? == some N[i]&&scope.names.lookup N[i]==some .free)=true:=q;rw[zR5]at a;exact⟨N[i],b,eq_of_beq a.1,eq_of_beq a.2⟩
def xM (imp:List (Option Nat))(σ:St):St:=imp.map λo=>o.bind λj=>(σ[j]?).bind id
theorem iN {imp:List (Option Nat)}{σ:St}{i:Nat}{v:V}(h:(xM imp σ)[i]?=some (some v)):∃j,imp[i]?=some (some j)/\σ[j]?=some (some v):=by
 unfold xM at h;rw[zO8]at h;cases e:imp[i]? with
 |none=>rw[e]at h;cases h
 |some o=>
  rw[e]at h;have h':(o.bind λj=>(σ[j]?).bind id)=some v:=zR0 h;cases o with
  |none=>cases h'
  |some j=>
   have a:(σ[j]?).bind id=some v:=h';cases e2:σ[j]? with
   |none=>rw[e2]at a;cases a
   |some w=>
    rw[e2]at a;have b:w=some v:=a;exact⟨j,rfl,by rw[e2,b]⟩
def Cx.comp (X:Cx)(N:List Str)(scope:Scope)(C:Addr)(s2:Shared)(a:Hp)(fp:List Addr):Cx where
 prog:=X.prog
 w:=X.w
 K:=X.K
 mg:=X.mg
 base:=X.base
 A:=X.A
 N:=N
 s₀:=s2
 H₀:=a
 env:=compEnvC scope (vJ X.env.cells scope.names []) C X.env
 outer:=X.stack
 stack:=X.stack
 ex:=fp
 fn:=λ_=>false
 calm:=X.calm
 pn:=[]
 xe:=λ_ _=>False
theorem uc {env:Env}:∀{names:List (Str×NameKind)}{x:Str},
  (names.map λ(n,k)=>if(k == NameKind.free&&env.scope.kind == .function&&env.kindOf n == some .cell)then(n,NameKind.cell)else(n,k)).lookup x=some .cell\/
  (names.map λ(n,k)=>if(k == NameKind.free&&env.scope.kind == .function&&env.kindOf n == some .cell)then(n,NameKind.cell)else(n,k)).lookup x=some .free->
  (∀y∈names,y.2≠.cell)->(x,NameKind.free)∈names
 |[],x,h,_=>by simp at h
 |(n,k)::r,x,h,hc=>by
  have f:=@uc env r x;rw[zR6]at h;dsimp only at h;by_cases d:x=n
  ·subst d;by_cases hk:k=.free
   ·subst hk;exact zO1
   ·have c:(k == NameKind.free)=false:=by simpa using hk
    simp only[c,z43,zY2,z49,zT4,beq_self_eq_true,z45]at h;rcases h with h|h
    ·have e:k=.cell:=zR0 h;exact absurd e (hc (x,k) zO1)
    ·have e:k=.free:=zR0 h;exact absurd e hk
  ·have a:(x == n)=false:=by simpa using d
   have step:∀(b:Bool) (l:List (Str×NameKind)),List.lookup x ((if b=true then(n,NameKind.cell)else(n,k))::l)=l.lookup x:=λb l=>by
    cases b<;>simp[zT4,a]
   rw[step]at h;exact zN7 _ (f h λy hy=>hc y (zN7 _ hy))
theorem tf {env:Env}:∀{names:List (Str×NameKind)}{x:Str},names.lookup x=some .free->
  (names.map λ(n,k)=>if(k == NameKind.free&&env.scope.kind == .function&&env.kindOf n == some .cell)then(n,NameKind.cell)else(n,k)).lookup x=some .cell\/
  (names.map λ(n,k)=>if(k == NameKind.free&&env.scope.kind == .function&&env.kindOf n == some .cell)then(n,NameKind.cell)else(n,k)).lookup x=some .free
 |[],x,h=>by simp at h
 |(n,k)::r,x,h=>by
  have a:=@tf env r x;rw[zR6];dsimp only;rw[zT4]at h;cases hx:x == n with
  |true=>
   rw[hx]at h;have e:k=.free:=zR0 h;subst e;by_cases hb:(NameKind.free == NameKind.free&&env.scope.kind == .function&&env.kindOf n == some .cell)=true
   ·left;rw[if_pos hb];simp[zT4,hx]
   ·right;rw[if_neg hb];simp[zT4,hx]
  |false=>
   rw[hx]at h;have step:∀(b:Bool) (l:List (Str×NameKind)),List.lookup x ((if b=true then(n,NameKind.cell)else(n,k))::l)=l.lookup x:=λb l=>by
    cases b<;>simp[zT4,hx]
   rw[step];exact a h
section
variable {X:Cx}{pins:List (Addr×Obj)}{σ:St}{H2 H':Hp}{s2 s':Shared}{fp:List Addr}{N:List Str}{imp:List (Option Nat)}{scope:Scope}{C acc:Addr}
theorem vK (I:Inv X pins σ H2 s2)(S:zI X.N X.env.scope N imp scope):∀y∈scope.names,y.2=.free->∃c,X.env.cells.lookup y.1=some c:=λy hy hk=>I.ok.has y.1 (S.frees y hy hk)
theorem xj (I:Inv X pins σ H2 s2)(S:zI X.N X.env.scope N imp scope){x:Str}{c:Addr}(h:(vJ X.env.cells scope.names []).lookup x=some c):(x,NameKind.free)∈scope.names/\X.env.cells.lookup x=some c:=by
 rcases ma scope.names [] (vK I S) x c (zU6 h)with q|q
 ·exact absurd q (by simp)
 ·exact q
theorem vY (I:Inv X pins σ H2 s2)(S:zI X.N X.env.scope N imp scope){x:Str}(h:(x,NameKind.free)∈scope.names):∃c,(vJ X.env.cells scope.names []).lookup x=some c:=by
 obtain⟨c,a⟩:=oT (cells:=X.env.cells) scope.names [] x h;exact mem_lookup a
theorem cU {f:Heap}{tk:Nat}{m:Str->Option Value}{J:Nat}(I:Inv X pins σ H2 s2)(S:zI X.N X.env.scope N imp scope)(hf:∀b∈fp,yX X pins H2 b)(W:∀b∈fp,∃o,s2.heap.get? b=some o)
  (a:acc=s2.heap.objs.size) (s:C=s2.heap.objs.size+1) (old:∀b o,s2.heap.get? b=some o->f.get? b=some o) (hn:f.Ns C m)
  (P:f.get? acc=some {cls:=.type "list",data:=.seq ([]:List Value).toArray J}):
  Inv (X.comp N scope C s2 H2 fp) [] (xM imp σ) (upd H2 acc (.lst [])) {s2 with heap:=f,toks:=tk}:=by
 have O:H2 acc=none:=I.hok.fresh (by rw[a];exact zN5 _);have F:C≠acc:=by rw[s,a];exact Nat.succ_ne_self _
 have t:∀x c,X.env.cells.lookup x=some c->c<s2.heap.objs.size:=λx c e=>by
  obtain⟨v,q⟩:=I.cell x c e;exact q.lt
 refine⟨⟨I.ok.mod,S.kind,I.ok.glob,I.ok.blt,?above,?inj,?has,?cab,I.ok.hd,I.ok.frames,.inl rfl,?exf,λb o e=>I.bs b o e,zO0 I.ok.bsz I.sz,?noex,?exfs,I.stack,I.stkFree⟩,
  rfl,I.bare,Un.laid old (by rw[a];exact zN5 _) O,⟨m,hn,?loc⟩,?cell,?free,?freeC,λp T=>absurd (show p∈([]:List (Addr×Obj))from T) (by simp),I.hok.laid old (by rw[a];exact zN5 _) ⟨zO5 _,[],J,.nil,P⟩,?len⟩
 case above=>show s2.heap.objs.size<=C;rw[s];exact zX8 _
 case inj=>exact λx y c f Y=>I.ok.inj x y c (xj I S f).2 (xj I S Y).2
 case has=>exact λx U=>vY I S (uc (env:=X.env) U S.nocell)
 case cab=>exact λx c h _=>absurd h (by show ¬(false=true);simp)
 case exf=>
  intro b hb;obtain⟨o,H⟩:=W b hb;refine⟨?_,λx c e=>(hf b hb).2.2.2.2.1 x c (xj I S e).2⟩;show b≠C;rw[s];exact zP1 (zW3 (zO4 H))
 case noex=>
  intro b o e hb;rcases(hf b hb).2.2.2.1 with z|z
  ·exact I.ok.noex b o e z
  ·exact absurd (zN4 (zO4 e) (zO0 I.ok.bsz z)) (zT2 _)
 case exfs=>
  intro b hb hz;rcases zN6.mp (I.stkSub b hz)with e|e
  ·exact(hf b hb).2.1 e
  ·exact(hf b hb).2.2.1 e
 case loc=>
  intro i x v e1 Q Z;obtain⟨j,R,V⟩:=iN Q;obtain⟨y,n1,n2,w⟩:=S.imps i j R;have G:(X.comp N scope C s2 H2 fp).N[i]?=some y:=n1;rw[G]at e1;have D:y=x:=zR0 e1;subst D;have n:=S.frees (y,.free) (zU6 w) rfl;obtain⟨mX,M,B⟩:=I.loc;obtain⟨u,r,l⟩:=B j y v n2 V (.inr n);refine⟨u,r,?_⟩;rcases l with⟨k,_⟩|⟨k,c,e,z⟩
  ·have K:X.env.scope.names.lookup y=some .local:=k;rcases n with z|z
   ·have g:X.env.scope.names.lookup y=some .cell:=z;rw[K]at g;cases g
   ·have g:X.env.scope.names.lookup y=some .free:=z;rw[K]at g;cases g
  ·obtain⟨d,hd⟩:=vY I S (zU6 w);have hd2:=(xj I S hd).2;rw[e]at hd2;have A:c=d:=zR0 hd2;subst A;exact .inr ⟨tf (env:=X.env) w,c,hd,z.keeps old⟩
 case cell=>
  intro x c e;obtain⟨v,q⟩:=I.cell x c (xj I S e).2;exact⟨v,q.keeps old⟩
 case free=>
  show upd H2 acc _ C=none;rw[zj F];exact I.hok.fresh (by rw[s];exact zX8 _)
 case freeC=>
  intro x c e;have L:=(xj I S e).2;have E:=t x c L;show upd H2 acc _ c=none;rw[zj (by rw[a];exact zP1 E)];exact I.freeC x c L
 case len=>
  show(xM imp σ).length=N.length;unfold xM;rw[zN0];exact S.len
theorem iE {pl:List (Addr×Obj)}{a:St}(I:Inv X pins σ H2 s2)(hf:∀b∈fp,yX X pins H2 b)(J:Inv (X.comp N scope C s2 H2 fp) pl a H' s'):Inv X pins σ H' s':=
 I.call' (ch:=fp) J.os J.base J.hok J.bare λb hb=>⟨(hf b hb).2.2.2.1,(hf b hb).2.1,(hf b hb).2.2.2.2.1,(hf b hb).2.2.2.2.2⟩
end
section
variable {prog:Program}{w:World}{A:Around}{R:Result->Shared->Prop}{s:Shared}
theorem pE {elt target iter:Expr}{ifs:List Expr}{scope:Scope}{pos:Pos}{it acc:Value}{env:Env}(I:Nat->Shared->Prop)
  (turn:∀n s,I n s->wpAny (model prog w) A (pyNext it) (λr s1=>match r with
   |none=>R (.ok .next) s1
   |some v=>wpAny (model prog w) A (letOwnedTupleGo target it v) (λ_ s2=>wpAny (model prog w) A (assign target env v) (λ_ s3=>
     wpAny (model prog w) A (forIn ifs true λc r=>if r=true then do let ok <-isTrue c env (eval c env);pure (ForInStep.yield ok)else pure (ForInStep.yield r)) (λok s4=>
      if ok=true then wpAny (model prog w) A (eval elt env) (λx s5=>
       wpAny (model prog w) A (call (.builtin "list.append") [acc,x]) (λ_ d=>∃m,m<n/\I m d) (λ_ _=>False) s5) (λ_ _=>False) s4
      else ∃m,m<n/\I m s4) (λ_ _=>False) s3) (λ_ _=>False) s2) (λ_ _=>False) s1) (λ_ _=>False) s)
  (n:Nat) (h:I n s):codeAny (model prog w) A (.compLoop (.ListComp elt [⟨target,iter,ifs,0⟩] scope pos) 0 it acc env) R s:=by
 refine codeAny_loop rfl I (λn s e=>?_) n h;show wpAny _ A ((compTurn (.ListComp elt [⟨target,iter,ifs,0⟩] scope pos) 0 it acc env).onRaise (λx=>do noteFrame x env;theTreesLotGoes x)) _ _ s;refine wpAny_noted ?_;rw[compTurn_list];refine zM8 (wpAny_standAt (zM8 (zS9 (turn n s e) (λr s1 a=>?_) λ_ _ h'=>False.elim h')));cases r with
 |none=>exact zN1 a
 |some v=>
  refine zM8 (zS9 a (λ_ s2 i=>?_) λ_ _ h'=>False.elim h');refine zM8 (zS9 i (λ_ s3 f=>zM8 (zS9 f (λok s4 b=>?_) λ_ _ h'=>False.elim h')) λ_ _ h'=>False.elim h');cases ok with
  |false=>exact zN1 ⟨rfl,b⟩
  |true=>
   exact zM8 (zM8 (zS9 b (λx s5 g=>zM8 (zS9 g (λ_ d j=>zN1 (zN1 ⟨rfl,j⟩)) λ_ _ h'=>False.elim h')) λ_ _ h'=>False.elim h'))
end
def wL (Y:Cx)(ifs:List Expr)(t:TT):Prop:=
 ∀(pins:List (Addr×Obj)) (s:Shared) (σ:St) (H:Hp) (Q:Bool->Hp->Prop),Inv Y pins σ H s->t σ H Q->
  wpAny (model Y.prog Y.w) Y.A (forIn ifs true λc r=>if r=true then do let ok <-isTrue c Y.env (eval c Y.env);pure (ForInStep.yield ok)else pure (ForInStep.yield r)) (TP Y pins σ Q) Y.xe s
def zK7 :TT:=λ_ H Q=>Q true H
theorem zd9 {Y:Cx}:wL Y [] zK7:=λ_ _ _ H _ I h=>wpAny_tests_nil ⟨H,I,h⟩
theorem za6 {Y:Cx}{c:Expr}{t:TT}(h:PT Y c t):wL Y [c] t:=λpins s σ H Q I q=>wpAny_tests_one (h pins s σ H Q I q)
def js (J:It)(acc:Addr)(g:TG)(tt:TT)(o:TE)(e:St)(H0:Hp)(Q:VK):Prop:=
 ∃W:Nat->Nat->List V->St->Hp->Prop,(∃m,W 0 m [] e H0)/\∀i m ys f b,W i m ys f b->
  (J.stop i b/\Q (.ref acc) b)\/(J.go i b/\∃N:List V->St->Hp->Prop,(∀a d H',N a d H'->∃j,j<m/\W (i+1) j a d H')/\
   ∀x l,J.yld i b x l->g x f l λτ2 n=>tt τ2 n λc h=>
    if c=true then o τ2 h λy k=>k acc=some (.lst ys)/\ys.length<sizeLine/\N (ys++[y]) τ2 (upd k acc (.lst (ys++[y])))else N ys τ2 h)
def bL (b:TI)(imp:List (Option Nat))(g:TG)(tt:TT)(a:TE):TE:=λσ H Q=>b σ H λJ H1=>∀acc,H1 acc=none->js J acc g tt a (xM imp σ) (upd H1 acc (.lst [])) Q
section
variable {X:Cx}{pins:List (Addr×Obj)}{σ:St}{elt iter tg:Expr}{ifs:List Expr}{scope:Scope}{pos:Pos}{wi:TI}{g:TG}{tt:TT}{te:TE}{N:List Str}{imp:List (Option Nat)}
theorem sL {c:Hp}{s2:Shared}{it:Addr}{fp:List Addr}{tn:Nat->Heap->Prop}{J:It}{RR:Value->Addr->Result->Shared->Prop}{E:Value->Shared->Prop}{Q:VK}
  (hc:X.calm=true) (S:zI X.N X.env.scope N imp scope) (hg:∀C s2 c fp,PG (X.comp N scope C s2 c fp) tg g) (ht:∀C s2 c fp,wL (X.comp N scope C s2 c fp) ifs tt) (he:∀C s2 c fp,PE (X.comp N scope C s2 c fp) elt te)
  (Z:Inv X pins σ c s2) (T:Turn X.prog X.w X.K tg J fp it tn) (D:tn 0 s2.heap) (f2:∀b∈fp,yX X pins c b)
  (hW:∀acc,c acc=none->js J acc g tt te (xM imp σ) (upd c acc (.lst [])) Q)
  (a6:∀a C H' s' m,Inv X pins σ H' s'->s'.heap.Ns C m->yX X pins H' C->Q (.ref a) H'->RR (.ref a) C (.ok .next) s'):
  wpAny (model X.prog X.w) X.A (newList []) (λacc s3=>wpAny (model X.prog X.w) X.A (newFunctionEnv scope X.env.globals (vJ X.env.cells scope.names []) [] X.env.qual none .none (some X.env)) (λt s4=>
   codeAny (model X.prog X.w) X.A (.compStart (.ListComp elt [⟨tg,iter,ifs,0⟩] scope pos) 0 (.ref it) acc {t with scope:=relabel scope X.env}) (RR acc t.locals) s4) E s3) E s2:=by
 refine zT5 (wpAny_newFunctionEnv S.nocell (by intro y hy;simp at hy) (λh1 k j=>?_) S.kind);dsimp only at k j ⊢;generalize F:s2.heap.push {cls:=.type "list",dict:=none,data:=.seq ([]:List Value).toArray}=HH at k j ⊢;have M:HH.objs.size=s2.heap.objs.size+1:=by rw[<-F,zV5]
 have L:s2.heap.objs.size≠HH.objs.size:=by rw[M];exact zP1 (zT3 _)
 have old:∀b o,s2.heap.get? b=some o->h1.get? b=some o:=λb o e=>j.extBut b o (by rw[M];exact zP1 (zW3 (zO4 e))) (zM9 _ (F▸zM9 _ e));have P:h1.get? s2.heap.objs.size=some {cls:=.type "list",data:=.seq ([]:List Value).toArray}:=j.extBut _ _ L (zM9 _ (F▸zO2 _ rfl));obtain⟨W,⟨m0,w0⟩,turn⟩:=hW s2.heap.objs.size Z.fresh;generalize b6:HH.objs.size=C at k j M L ⊢;have ho:∀b∈fp,∃o,s2.heap.get? b=some o:=λb hb=>let⟨o,e,_⟩:=T.obj 0 _ D b hb;⟨o,e⟩;generalize f:s2.heap.objs.size=acc at *;have loop:∀s3:Shared,s3={s2 with heap:=h1,toks:=s2.toks+([]:List (Str×Value)).length}->
   codeAny (model X.prog X.w) X.A (.compLoop (.ListComp elt [⟨tg,iter,ifs,0⟩] scope pos) 0 (.ref it) (.ref acc) (X.comp N scope C s2 c fp).env) (RR (.ref acc) C) s3:=by
  rintro s3 rfl;have I3:Inv (X.comp N scope C s2 c fp) [] (xM imp σ) (upd c acc (.lst [])) {s2 with heap:=h1,toks:=s2.toks+([]:List (Str×Value)).length}:=
   cU Z S f2 ho f.symm (by rw[M,f]) old k P
  have a1:∀b∈fp,upd c acc (.lst []) b=none:=λb hb=>by
   obtain⟨o,e⟩:=ho b hb;rw[zj (by rw[<-f];exact zP1 (zO4 e))];exact(f2 b hb).1
  have l:∀{H':Hp},(∀b∈fp,H' b=none)->∀b∈fp,yX (X.comp N scope C s2 c fp) [] H' b:=λhn b hb=>by
   obtain⟨e1,e2⟩:=I3.ok.exf b hb;exact⟨hn b hb,e1,I3.ok.exfs b hb,.inl hb,e2,λp hp=>absurd (show p∈([]:List (Addr×Obj))from hp) (by simp)⟩
  refine pE (λn s'=>∃i ys q H',Inv (X.comp N scope C s2 c fp) [] q H' s'/\tn i s'.heap/\(∀b∈fp,H' b=none)/\W i n ys q H') ?_ m0
   ⟨0,[],_,_,I3,T.keep _ _ _ D λb _ o e=>old b o e,a1,w0⟩
  rintro n s4 ⟨i,ys,q,Y,I4,I,O,w4⟩;rcases turn i n ys q Y w4 with⟨stop,qn⟩|⟨go,NN,hN,step⟩
  ·refine zS9 (T.done (X.comp N scope C s2 c fp) rfl rfl rfl hc i [] s4 q Y (λ_ _=>False) I4 (l O) I stop) (λr s5 b2=>?_) λ_ _ z=>z;obtain⟨hr,I5⟩:=b2;subst hr;obtain⟨m5,a2,_⟩:=id I5.loc;exact a6 acc C Y s5 m5 (iE Z f2 I5) a2 (Z.fpOk (by rw[M,f];exact zX8 _) I5.free) qn
  ·refine zS9 (T.item (X.comp N scope C s2 c fp) rfl rfl rfl hc i [] s4 q Y (λ_ _=>False) I4 (l O) I go) (λr s5 a5=>?_) λ_ _ z=>z;obtain⟨u,hr,h5⟩:=a5;subst hr;refine zS9 h5 (λ_ s6 a4=>?_) λ_ _ z=>z;obtain⟨x,H6,I6,r6,y6,G,a8⟩:=a4;have b1:=I6.pinned (l a8) (T.obj _ _ G);refine zS9 (hg C s2 c fp _ s6 q H6 x u _ b1 r6 (step x H6 y6)) (λ_ s7 b3=>?_) λ_ _ z=>z;obtain⟨h,H7,I7,q7⟩:=b3;refine zS9 (ht C s2 c fp _ s7 h H7 _ I7 q7) (λok s8 a7=>?_) λ_ _ z=>z;obtain⟨H8,I8,q8⟩:=a7;have again:∀{s:List V} {B:Hp} {H:Shared},Inv (X.comp N scope C s2 c fp) ([]++rL fp s6.heap) h B H->NN s h B->∃m,m<n/\∃i ys q H',Inv (X.comp N scope C s2 c fp) [] q H' H/\tn i H.heap/\(∀b∈fp,H' b=none)/\W i m ys q H':=λ{s B H} U n9=>by
    obtain⟨m',hm,w9⟩:=hN s h B n9;refine⟨m',hm,i+1,s,h,B,U.unpinned,T.keep _ _ _ G λb hb o e=>(U.pin (b,o) (zO6 _ (zO6 _ (xT hb e)))).1,λb hb=>?_,w9⟩;obtain⟨o,e,d⟩:=T.obj _ _ G b hb;exact(U.pin (b,o) (zO6 _ (zO6 _ (xT hb e)))).2.1
   cases ok with
   |false=>
    have b4:NN ys h H8:=by
     have z:=q8;rw[if_neg zP9]at z;exact z
    rw[if_neg zP9];exact again I8 b4
   |true=>
    rw[if_pos rfl]at q8 ⊢;refine zS9 (he C s2 c fp _ s8 h H8 _ I8 q8) (λv H b5=>?_) λ_ _ z=>z;obtain⟨y,B,U,r9,a9,z9,q9⟩:=b5;refine zS9 (qx (X:=X.comp N scope C s2 c fp) _ H h B (.ref acc) [y] (.ref acc) [v] (λ_ R=>R=upd B acc (.lst (ys++[y]))) U rfl (.cons r9 .nil) ⟨acc,ys,y,rfl,rfl,a9,z9,rfl⟩) (λ_ b7 a3=>?_) λ_ _ z=>z;obtain⟨_,R,a0,_,b0⟩:=a3;subst b0;exact again a0 q9
 exact codeAny_compStart_list (loop _ rfl) (T.self X.A 0 _ _ _ (T.keep _ _ _ D λb _ o e=>old b o e) (loop _ rfl))
theorem zE6 (n:X.calm=true)(S:zI X.N X.env.scope N imp scope)(hi:PI X tg iter wi)(hg:∀C s2 c fp,PG (X.comp N scope C s2 c fp) tg g)(r:∀C s2 c fp,wL (X.comp N scope C s2 c fp) ifs tt)
  (he:∀C s2 c fp,PE (X.comp N scope C s2 c fp) elt te) (i:∀x,foldedSetIterable iter X.env x=pure x:=by intro _;rfl):
  PE X (.ListComp elt [⟨tg,iter,ifs,0⟩] scope pos) (bL wi imp g tt te):=by
 intro pins s σ H Q I h;rw[eval_ListComp];refine wpAny_comprehension_free (use:=none) rfl i (vt (vK I S)) S.kind S.locs (thn (hi pins s σ H _ I h) λv s1 l=>thn l λu s2 z=>?_);obtain⟨it,fp,tn,J,c,e,j,T,d,f2,B⟩:=z;subst e;refine sL (RR:=λacc C=>compPost (model X.prog X.w) X.A X.xe none (EP X pins σ Q) acc C) n S hg r he j T d f2 B λa C H' s' m k hn f q=>?_;refine⟨m,hn,λh' sb=>?_⟩;obtain⟨y,g1,g2,g3,p,t⟩:=f;exact⟨.ref a,H',k.turned (t':=s'.toks) (it:=C) (λb o hb e=>(sb.2 b hb).trans e) y g1 g3 p t,rfl,q⟩
theorem bw {i:Nat}{x:Str}{px:Pos}{c:Pos}(G:X.calm=true)(S:zI X.N X.env.scope N imp scope)(hi:PI X tg iter wi)(hg:∀C s2 d fp,PG (X.comp N scope C s2 d fp) tg g)(L:∀C s2 d fp,wL (X.comp N scope C s2 d fp) ifs tt)
  (he:∀C s2 d fp,PE (X.comp N scope C s2 d fp) elt te) (F:X.N.Nodup) (K:X.N[i]?=some x) (B:Loc X.env.scope x) (k:swapsWith (.ListComp elt [⟨tg,iter,ifs,0⟩] scope pos) (some (.Name x px)) c.line X.env=pure true:=by rfl)
  (hf:X.fn x=true\/X.env.scope.names.lookup x=some .local:=by first|exact .inl rfl|exact .inr rfl|assumption) (u:∀x,foldedSetIterable iter X.env x=pure x:=by intro _;rfl):
  PS X (.Assign [.Name x px] (.ListComp elt [⟨tg,iter,ifs,0⟩] scope pos) c) (zo8 (bL wi imp g tt te) (rJ i)):=by
 intro pins s σ H D I h;rw[exec_Assign_Name_used _ _ _ _ k];refine zM8 (wpAny_standAt (zM8 ?_));show wpAny _ X.A (do let _ <-comprehension (.ListComp elt [⟨tg,iter,ifs,0⟩] scope pos) scope X.env _ (newList []) false (eval iter X.env) (some (assign (.Name x px) X.env))) _ _ s;refine zM8 (zS9 (wpAny_comprehension_free (use:=some (assign (.Name x px) X.env)) (Q:=λ_ s'=>SP X pins D .next s') rfl u (vt (vK I S)) S.kind S.locs (thn (hi pins s σ H _ I h) λv s1 E=>thn E λP s2 U=>?_))
  (λ_ s' hq=>zN1 (zN1 hq)) λ_ _ e=>e)
 obtain⟨it,fp,tn,J,d,e,y,T,n,f2,V⟩:=U;subst e;refine sL (Q:=λx H1=>rJ i x σ H1 D.nx) (RR:=λacc C=>compPost (model X.prog X.w) X.A X.xe (some (assign (.Name x px) X.env)) (λ_ s'=>SP X pins D .next s') acc C) G S hg L he y T n f2 V λa C H' s' m z hn f q=>?_;show wpAny _ X.A (assign (.Name x px) X.env (.ref a)) _ _ _;obtain⟨R,g1,g2,g3,t,O⟩:=f;refine wpAny_assign_Name (qH z F K B (show RelV (.ref a) (.ref a)from rfl) (λs4 M j=>?_) hf);obtain⟨ad,sb,r⟩:=j;have p:C≠ad:=by
  rcases r with e|e
  ·rw[e];exact g1
  ·exact(t x ad e).symm
 refine⟨m,hn.sameBut sb p,λh' l=>?_⟩;exact⟨_,H',M.turned (t':=s4.toks) (it:=C) (λb o hb e=>(l.2 b hb).trans e) R g1 g3 t O,q⟩
end
mutual
inductive DV (H:Hp):V->PyData->Prop where
 |non:DV H .non .none
 |bl (b:Bool):DV H (.bl b) (.bool b)
 |int (i:Int):DV H (.int i) (.int i)
 |str (x:Str):DV H (.str x) (.str x)
 |lst {a:Addr}{xs:List V}{ds:List PyData}:H a=some (.lst xs)->DVs H xs ds->DV H (.ref a) (.list ds)
 |tup {a:Addr}{xs:List V}{ds:List PyData}:H a=some (.tup xs)->DVs H xs ds->DV H (.ref a) (.tuple ds)
inductive DVs (H:Hp):List V->List PyData->Prop where
 |nil:DVs H [] []
 |cons {x:V}{xs:List V}{d:PyData}{ds:List PyData}:DV H x d->DVs H xs ds->DVs H (x::xs) (d::ds)
end
theorem zA1 {H:Hp}{m1:V->PyData->Prop}{m2:List V->List PyData->Prop}(f:m1 .non .none)(m:∀b,m1 (.bl b) (.bool b))(c:∀i,m1 (.int i) (.int i))(l:∀x,m1 (.str x) (.str x))
  (p:∀{a:Addr} {xs:List V} {ds:List PyData},H a=some (.lst xs)->m2 xs ds->m1 (.ref a) (.list ds)) (n:∀{a:Addr} {xs:List V} {ds:List PyData},H a=some (.tup xs)->m2 xs ds->m1 (.ref a) (.tuple ds)) (n2:m2 [] []) (o:∀{x:V} {xs:List V} {d:PyData} {ds:List PyData},m1 x d->m2 xs ds->m2 (x::xs) (d::ds)):
  (∀x d,DV H x d->m1 x d)/\∀xs ds,DVs H xs ds->m2 xs ds:=by
 let j:=λx d (_:DV H x d)=>m1 x d
 let M2:=λx d (_:DVs H x d)=>m2 x d
 have k:=λ{a} {xs} {ds} (q:H a=some (.lst xs)) (_:DVs H xs ds) (z:m2 xs ds)=>p (a:=a) q z;have g:=λ{a} {xs} {ds} (q:H a=some (.tup xs)) (_:DVs H xs ds) (z:m2 xs ds)=>n (a:=a) q z;have e:=λ{x} {xs} {d} {ds} (_:DV H x d) (_:DVs H xs ds) (y:m1 x d) (z:m2 xs ds)=>o y z;exact⟨λ_ _ h=>@DV.rec H j M2 f m c l k g n2 e _ _ h,λ_ _ h=>@DVs.rec H j M2 f m c l k g n2 e _ _ h⟩
section
variable {X:Cx}{pins:List (Addr×Obj)}{σ:St}{H:Hp}{s:Shared}
theorem aP (I:Inv X pins σ H s):(∀x d,DV H x d->∀u,RelV x u->∃as,Reads s.heap u d as)/\∀xs ds,DVs H xs ds->∀us,Vals xs us->∃as,ReadsAll s.heap us ds as:=by
 refine zA1 (m1:=λx d=>∀u,RelV x u->∃as,Reads s.heap u d as) (m2:=λxs ds=>∀us,Vals xs us->∃as,ReadsAll s.heap us ds as) ?_ ?_ ?_ ?_ ?_ ?_ ?_ ?_
 ·intro u r;cases(show u=Value.none from r);exact⟨_,.none⟩
 ·intro b u r;cases(show u=Value.bool b from r);exact⟨_,.bool b⟩
 ·intro i u r;obtain⟨t,rfl⟩:=(show ∃t,u=Value.int i t from r);exact⟨_,.int i t⟩
 ·intro x u r;obtain⟨t,rfl⟩:=(show ∃t,u=Value.str x t from r);exact⟨_,.str x t⟩
 ·intro a xs ds hq c u r;cases(show u=Value.ref a from r);obtain⟨its,f,p,hz⟩:=I.list (SqL.of hq);obtain⟨o,g,j,n,hd⟩:=p.isList;obtain⟨as,e⟩:=c _ f;exact⟨_,.list g j hd (by simpa using e)⟩
 ·intro a xs ds hq c u r;cases(show u=Value.ref a from r);obtain⟨its,f,p,hz⟩:=I.tuple (SqT.of hq);obtain⟨o,g,j,n,hd⟩:=p;obtain⟨as,e⟩:=c _ f;exact⟨_,.tuple g j hd (by simpa using e)⟩
 ·intro us r;cases r;exact⟨_,.nil⟩
 ·intro x xs d ds h c us r;cases r with
  |cons r rs=>
   obtain⟨as,e⟩:=h _ r;obtain⟨bs,k⟩:=c _ rs;exact⟨_,.cons e k⟩
theorem DV.reads (I:Inv X pins σ H s){x:V}{d:PyData}{u:Value}(h:DV H x d)(r:RelV x u):∃as,Reads s.heap u d as:=(aP I).1 _ _ h _ r
end
theorem zx6 {H H':Hp}(e:zt H H'):(∀x d,DV H x d->DV H' x d)/\∀xs ds,DVs H xs ds->DVs H' xs ds:=zA1 .non .bl .int .str (λq=>.lst (e _ _ q)) (λq=>.tup (e _ _ q)) .nil .cons
theorem DV.same {H H':Hp}(e:zt H H'){x:V}{d:PyData}(h:DV H x d):DV H' x d:=(zx6 e).1 _ _ h
def tyD :PyData->String
 |.none=>"NoneType"
 |.bool _=>"bool"
 |.int _=>"int"
 |.str _=>"str"
 |.list _=>"list"
 |.tuple _=>"tuple"
 |.dict _=>"dict"
theorem DV.ty {K:PySem.W.Frag}{H:Hp}{x:V}{d:PyData}(h:DV H x d):uk K H x (.type (tyD d)):=by
 cases h with
 |non=>exact .non
 |bl b=>exact .bl b
 |int i=>exact .int i
 |str x=>exact .str x
 |lst e _=>exact .lst e
 |tup e _=>exact .tup e
def isInt :PyData->Bool
 |.int _=>true
 |.bool _=>true
 |_=>false
def isBool :PyData->Bool
 |.bool _=>true
 |_=>false
def isStr :PyData->Bool
 |.str _=>true
 |_=>false
def isList :PyData->Bool
 |.list _=>true
 |_=>false
def ao :PyData->Bool
 |.tuple _=>true
 |_=>false
def dF (T:String)(d:PyData):Option Bool:=
 if T="int" then some (isInt d)else if T="bool" then some (isBool d)else if T="str" then some (isStr d)else if T="list" then some (isList d)else if T="tuple" then some (ao d)else none
def zo6 (t T:String):Option Bool:=if(Value.type t == Value.type T)=true then some true else if PySem.W.kitMeta T=true then(fastBuiltinMro t).map (·.contains (Value.type T))else none
theorem dN (K:PySem.W.Frag)(t T:String):PySem.W.kitOne K (.type t) (.type T)=zo6 t T:=rfl
theorem dB :(["NoneType","bool","int","str","list","tuple"].all λt=>["int","bool","str","list","tuple"].all λT=>
  zo6 t T == some (if T="int" then t == "int"||t == "bool" else t == T))=true:=by decide +kernel
theorem zA3 (K:PySem.W.Frag){H:Hp}{x:V}{d:PyData}(h:DV H x d){T:String}{b:Bool}(e:dF T d=some b):PySem.W.kitOne K (.type (tyD d)) (.type T)=some b:=by
 rw[dN];have key:∀t∈["NoneType","bool","int","str","list","tuple"],∀T∈["int","bool","str","list","tuple"],zo6 t T=some (if T="int" then t == "int"||t == "bool" else t == T):=λt f T c=>
  eq_of_beq (z27.mp (z27.mp dB t f) T c)
 have hd:tyD d∈["NoneType","bool","int","str","list","tuple"]:=by cases h<;>simp[tyD]
 unfold dF at e;split at e
 ·rename_i a;subst a;rw[key _ hd "int" (by decide)];cases e;cases h<;>rfl
 ·split at e
  ·rename_i a;subst a;rw[key _ hd "bool" (by decide)];cases e;cases h<;>rfl
  ·split at e
   ·rename_i a;subst a;rw[key _ hd "str" (by decide)];cases e;cases h<;>rfl
   ·split at e
    ·rename_i a;subst a;rw[key _ hd "list" (by decide)];cases e;cases h<;>rfl
    ·split at e
     ·rename_i a;subst a;rw[key _ hd "tuple" (by decide)];cases e;cases h<;>rfl
     ·cases e
section
variable {X:Cx}
def zD7 :R2:=λx y H Q=>∃d e,DV H x d/\DV H y e/\SeqAt.shaped d=true/\SeqAt.shaped e=true/\Q (.bl (PyData.eqv d e)) H
def zF4 :R2:=λx y H Q=>∃d e,DV H x d/\DV H y e/\SeqAt.shaped d=true/\SeqAt.shaped e=true/\Q (.bl (!PyData.eqv d e)) H
theorem zr5 (i:X.A.units+64<cLine):OpR X (compareOp .Eq) zD7:=by
 intro pins s σ H x y v u Q I f j h;obtain⟨d,e,hd,he,b,g,q⟩:=h;obtain⟨as,c⟩:=hd.reads I f;obtain⟨bs,a⟩:=he.reads I j;exact SeqAt.compareEq_shaped c a b g i ⟨.bl _,H,I,rfl,q⟩
theorem zu4 (i:X.A.units+64<cLine):OpR X (compareOp .NotEq) zF4:=by
 intro pins s σ H x y v u Q I f j h;obtain⟨d,e,hd,he,b,g,q⟩:=h;obtain⟨as,c⟩:=hd.reads I f;obtain⟨bs,a⟩:=he.reads I j;exact SeqAt.compareNe_shaped c a b g i ⟨.bl _,H,I,rfl,q⟩
theorem eV :xl X (.builtin "isinstance") (λxs H Q=>∃x T t b,xs=[x,.ty T]/\uk X.K H x t/\PySem.W.kitOne X.K t (.type T)=some b/\Q (.bl b) H):=by
 intro pins s σ H xs us Q I r h;obtain⟨x,T,t,b,rfl,ty,e,q⟩:=h;obtain⟨u,v,rfl,a,c⟩:=Vals.two r;cases(show v=Value.type T from c);exact gX I a ty e λtk=>⟨.bl b,H,I.tok tk,rfl,q⟩
theorem iR :xl X (.builtin "isinstance") (λxs H Q=>∃x T d b,xs=[x,.ty T]/\DV H x d/\dF T d=some b/\Q (.bl b) H):=by
 intro pins s σ H xs us Q I r h;obtain⟨x,T,d,b,e,hd,a,q⟩:=h;exact eV pins s σ H xs us Q I r ⟨x,T,_,b,e,hd.ty,zA3 X.K hd a,q⟩
def zh8 (i j:Int):Prop:=0<j/\j.natAbs.log2<9000
theorem rV :OpR X (binaryOp .FloorDiv) (rI zh8 λi j=>.int (i / j)):=opI λi j _ _ _ _ _ b q=>by
 have a:(0:Int)<j:=b.1;refine floordiv_int (Int.ne_of_gt a) ?_ (.inl (PyProof.noPylong_of_log2 b.2));rw[Int.fdiv_eq_ediv_of_nonneg _ (z06 a)];exact q
abbrev big :Int:=115792089237316195423570985008687907853269984665640564039457584007913129639936
theorem log2_small {j:Int}(h0:0<j)(h:j<big):j.natAbs.log2<9000:=by
 have hn:j.natAbs≠0:=by lia
 have a:j.natAbs<2 ^ 256:=by
  have e:(2:Nat) ^ 256=115792089237316195423570985008687907853269984665640564039457584007913129639936:=by decide +kernel
  rw[e];unfold big at h
  lia
 have b:j.natAbs.log2<256:=(Nat.log2_lt hn).mpr a
 lia
theorem nZ :xl X (.type "range") (λxs H Q=>∃i j:Int,xs=[.int i,.int j]/\∀p,H p=none->Q (.ref p) (upd H p (.rng i j))):=by
 intro pins s σ H xs us Q I r h;obtain⟨i,j,rfl,q⟩:=h;obtain⟨u,v,rfl,⟨t,rfl⟩,⟨t',rfl⟩⟩:=Vals.two r;refine call_range_2 ⟨.ref s.heap.objs.size,_,I.laid (o:=.rng i j) (λb u e=>zM9 _ e) (zN5 _) ⟨t,t',s.toks,zO2 _ rfl⟩,rfl,q _ (I.hok.fresh (zN5 _))⟩
def zp (lo:Int)(n:Nat):List Int:=(List.range n).map λi=>lo+(i:Nat)
theorem zb (lo:Int)(n:Nat):(zp lo n).length=n:=by simp[zp]
theorem yB {lo:Int}{n i:Nat}(h:i<n):(zp lo n)[i]?=some (lo+(i:Nat)):=by simp[zp,h]
theorem qk {lo:Int}{n:Nat}{acc:Array Value}(h:ItemsOf (λi v=>∃t,v=.int (lo+i*1) t) acc n):Vals ((zp lo n).map V.int) acc.toList:=by
 obtain⟨d,j⟩:=h;have key:∀(xs:List V) (us:List Value),xs.length=us.length->(∀(i:Nat) (x:V) (u:Value),xs[i]?=some x->us[i]?=some u->RelV x u)->Vals xs us:=by
  intro xs
  induction xs with
  |nil=>intro us a _;cases us with|nil=>exact .nil|cons _ _=>simp at a
  |cons x xs g=>
   intro us a hr;cases us with
   |nil=>simp at a
   |cons u us=>exact .cons (hr 0 x u rfl rfl) (g us (by simpa using a) λi k e e1 b=>hr (i+1) k e (by simpa using e1) (by simpa using b))
 refine key _ _ ?_ λi x u e1 b=>?_
 ·rw[zN0,zb];simp[d]
 ·rw[zO8]at e1;have hi:i<n:=by
   have:=(zN8.mp b).1;simp[d]at this;exact this
  rw[yB hi]at e1;have c:V.int (lo+(i:Nat))=x:=zR0 e1;subst c;obtain⟨t,f⟩:=j i u (by simpa using b);refine⟨t,?_⟩;rw[f,Int.mul_one]
theorem qq (d:X.calm=true):xl X (.type "list") (λxs H Q=>∃(p:Addr) (lo hi:Int),xs=[.ref p]/\H p=some (.rng lo hi)/\(-(2 ^ 62)<=lo/\lo<2 ^ 62/\-(2 ^ 62)<=hi/\hi<2 ^ 62)/\(hi-lo).toNat<=sizeLine/\(hi-lo).toNat<=2 ^ 24/\
  ∀l,H l=none->Q (.ref l) (upd H l (.lst ((zp lo (hi-lo).toNat).map V.int)))):=by
 intro pins s σ H xs us Q I r h;obtain⟨p,lo,hi,rfl,f,⟨v,g,j,i⟩,hz,b,q⟩:=h;obtain⟨u,rfl,k⟩:=Vals.one r;cases(show u=Value.ref p from k);obtain⟨t,t',m,e⟩:=(show zT X.prog X.w H s.heap p (.rng lo hi)from I.hok p _ f);refine call_list_range (I.ok.hd d) e (small_one v g j i) (n:=(hi-lo).toNat) (by rw[rangeSize_one];split<;>lia) b λh' tk a c' hk c hit=>?_;refine⟨.ref s.heap.objs.size,_,I.laid (o:=.lst ((zp lo (hi-lo).toNat).map V.int)) (t':=tk) hk (zN5 _) ⟨by rw[zN0,zb];exact hz,a.toList,c',qk hit,by simpa using c⟩,rfl,q _ (I.hok.fresh (zN5 _))⟩
end
def dE (X:Cx)(body:List Stmt):TS:=λD σ H=>∃t,PSs X body t/\t D σ H
theorem zG {X:Cx}{body:List Stmt}:PSs X body (dE X body):=λpins s σ H D I ⟨t,p,q⟩=>p pins s σ H D I q
theorem sg {X:Cx}{st:Stmt}{rest:List Stmt}{D:Ends}{σ:St}{H:Hp}(M:St->Hp->Prop)(i:∃t,PS X st t/\t {D with nx:=M} σ H)(n:∀a H',M a H'->∃t,PSs X rest t/\t D a H'):
  ∃t,PSs X (st::rest) t/\t D σ H:=by
 obtain⟨t1,p1,k⟩:=i;refine⟨λc a H'=>c=D/\a=σ/\H'=H,?_,rfl,rfl,rfl⟩;intro pins s a H' c I h;obtain⟨e1,j,g⟩:=h;subst e1 j g;have step:PSs X (st::rest) (zz3 t1 λd σ2 b=>d=c/\M σ2 b):=zy p1 λpins s σ2 b d f ⟨e,m⟩=>by
  subst e;obtain⟨o,p2,l⟩:=n σ2 b m;exact p2 pins s σ2 b _ f l
 refine step pins s _ _ _ I ?_;show t1 {c with nx:=λσ2 b=>c=c/\M σ2 b} _ _;have e:(λ(σ2:St) (b:Hp)=>c=c/\M σ2 b)=M:=by
  funext σ2 b
  exact propext ⟨λz=>z.2,λz=>⟨rfl,z⟩⟩
 rw[e];exact k
theorem at0 {α:Type}{x:α}{xs:List α}:atI (x::xs) 0=some x:=wV (j:=0) rfl
theorem dW (ns:List Int)(lo hi:Option Int):∃ms:List Int,sR (ns.map V.int) lo hi=ms.map V.int/\ms.length<=ns.length:=by
 refine⟨(ns.drop (HT.sIx (ns.map V.int).length 0 lo)).take (HT.sIx (ns.map V.int).length (ns.map V.int).length hi-HT.sIx (ns.map V.int).length 0 lo),?_,?_⟩
 ·unfold sR;rw[List.map_take,z98]
 ·rw[zP7,zQ9];omega
def zH3 (bs:List Int):Prop:=∃x y:Int,bs=[x,y]/\0<=y/\y<4294967296
structure yN (H:Hp)(t b c:Addr):Prop where
 ex:∃(n:Int) (bs cs:List Int),(b=t/\c=t)/\H t=some (.lst (bs.map V.int))/\H b=some (.lst (bs.map V.int))/\H c=some (.lst (cs.map V.int))/\zH3 bs/\n=0
def zx2 (t b:Addr)(H H':Hp):Prop:=∀a,a≠t->a≠b->H' a=H a
def fB :Sp:=λvs H Q _=>∃(t b c:Addr) (many:Int),vs=[.ref t,.int many]/\yN H t b c/\0<many/\many<big/\
 ∀(v:Int) (H':Hp),0<=v->v<many->yN H' t b c->zx2 t b H H'->Q (.int v) H'
theorem yN.free {H:Hp}{t b c l:Addr}(T:yN H t b c)(h:H l=none):l≠t/\l≠b/\l≠c:=by
 obtain⟨n,bs,cs,n1,e1,a,d,l1,l2⟩:=T.ex;exact⟨(zo e1 h).symm,(zo a h).symm,(zo d h).symm⟩
theorem yN.off {H H':Hp}{t b c:Addr}(T:yN H t b c)(h:∀a,a=t\/a=b\/a=c->H' a=H a):yN H' t b c:=by
 obtain⟨n,bs,cs,n1,e1,d,e,l1,l2⟩:=T.ex;exact⟨n,bs,cs,n1,by rw[h t (.inl rfl)];exact e1,by rw[h b (.inr (.inl rfl))];exact d,by rw[h c (.inr (.inr rfl))];exact e,l1,l2⟩
theorem dP {H:Hp}{t b c l:Addr}{o:HO}(T:yN H t b c)(h:l≠t/\l≠b/\l≠c):yN (upd H l o) t b c:=
 T.off λa ha=>zj (ha.elim (λe=>e▸h.1.symm) λha=>ha.elim (λe=>e▸h.2.1.symm) λe=>e▸h.2.2.symm)
theorem gI {H H':Hp}{t b c:Addr}(T:yN H t b c)(s:zt H H'):yN H' t b c:=by
 obtain⟨n,bs,cs,n1,e1,a,d,l1,l2⟩:=T.ex;exact⟨n,bs,cs,n1,s _ _ e1,s _ _ a,s _ _ d,l1,l2⟩
theorem zH {H:Hp}{p:Addr}{o:HO}(h:H p=none):zt H (upd H p o):=λb u e=>by rw[zj (zo e h)];exact e
def yn :Addr:=(128:Nat)
def xr :Str:="cheapest_first.<locals>.<lambda>"
def tD (x:Addr):Prop:=x=yn
def tG (c:Addr):HO:=.ext λh=>h.CodeRec (.ref c) xr
structure TabAt (H:Hp):Prop where
 ex:∃ps:Array Value,H yn=some (.tbl ps)/\TriplesOk ps.toList/\∀pos cv,codeAmong pos ps.toList=some cv->∃c,cv=.ref c/\H c=some (tG c)
theorem rT {H H':Hp}(T:TabAt H)(h:∀a o,(∀xs,o≠.lst xs)->H a=some o->H' a=some o):TabAt H':=by
 obtain⟨ps,e1,e,d⟩:=T.ex;refine⟨ps,h _ _ (λxs z=>nomatch z) e1,e,λpos cv f=>?_⟩;obtain⟨c,rfl,b⟩:=d pos cv f;exact⟨c,rfl,h _ _ (λxs z=>nomatch z) b⟩
def Plain (H:Hp)(l:Addr):Prop:=∀o,H l=some o->o≠tG l/\∀ps,o≠.tbl ps
theorem zf7 {H:Hp}{l:Addr}{o:HO}(T:TabAt H)(h:Plain H l):TabAt (upd H l o):=by
 obtain⟨ps,e1,b,e⟩:=T.ex;have n1:yn≠l:=λz=>by rw[z]at e1;exact(h _ e1).2 ps rfl
 refine⟨ps,by rw[zj n1];exact e1,b,λpos cv d=>?_⟩;obtain⟨c,rfl,a⟩:=e pos cv d;have n2:c≠l:=λz=>by subst z;exact(h _ a).1 rfl
 exact⟨c,rfl,by rw[zj n2];exact a⟩
theorem gN {ps:Array Value}:∀a,HO.tbl ps≠HO.tup a:=λ_ z=>by cases z
theorem tS {H:Hp}{x:Addr}(T:TabAt H)(h:tD x):∃o,H x=some o/\(∀a,o≠.tup a)/\∀xs,o≠.lst xs:=by
 obtain⟨ps,e1,_⟩:=T.ex;exact⟨_,by rw[h];exact e1,gN,λ_ z=>by cases z⟩
theorem qL {H:Hp}{l:Addr}{xs:List V}(h:H l=some (.lst xs)):Plain H l:=λo e=>by
 rw[h]at e;cases e;exact⟨(λz=>by cases z),λps z=>by cases z⟩
theorem bO {H:Hp}{l:Addr}{xs:List (Key×V)}(h:H l=some (.dK xs)):Plain H l:=λo e=>by
 rw[h]at e;cases e;exact⟨(λz=>by cases z),λps z=>by cases z⟩
theorem iT {H:Hp}{l C dx:Addr}{fs:List (Str×V)}(h:H l=some (.ins C dx fs)):Plain H l:=λo e=>by
 rw[h]at e;cases e;exact⟨(λz=>by cases z),λps z=>by cases z⟩
theorem uq {H:Hp}{l:Addr}(T:TabAt H)(h:H l=none):¬tD l:=λz=>by
 obtain⟨o,e,_⟩:=tS T z;rw[h]at e;cases e
theorem ze6 {H H':Hp}{t b:Addr}{xs ys:List V}(T:TabAt H)(c:H t=some (.lst xs))(hb:H b=some (.lst ys))(off:zx2 t b H H'):TabAt H':=rT T λa o no e=>by
 have n1:a≠t:=λz=>by rw[z,c]at e;cases e;exact no _ rfl
 have n2:a≠b:=λz=>by rw[z,hb]at e;cases e;exact no _ rfl
 rw[off a n1 n2];exact e
theorem zu3 {H H':Hp}(T:TabAt H)(h:zt H H'):TabAt H':=rT T λa o _ e=>h a o e
def ml (K:PySem.W.Frag):Sp:=λvs H Q _=>∃(a:Addr) (ns:List Int),vs=[.ref a]/\SqL K H a (ns.map V.int)/\ns.length<=63/\TabAt H/\∀H',Q (.bl true) H'
structure zZ (n:Nat)(d:PyData):Prop where
 shw:d.showable=true
 nod:d.hasDict=false
 dep:d.depth<=8
 len:d.shown.length<=n
 lay:d.canLay0=true
theorem zZ.mono {m n:Nat}{d:PyData}(h:zZ m d)(e:m<=n):zZ n d:=⟨h.shw,h.nod,h.dep,zO0 h.len e,h.lay⟩
theorem uY :∀(a:List Str) (k:Nat) (acc:Str),(textFrom k acc a).length<=acc.length+piled a
 |[],_,acc=>by rw[piled_nil];exact zN5 _
 |t::r,k,acc=>by
  have h:=uY r (k+1) (acc++(if k > 0 then ", " else "":String)++t);rw[piled_cons];have c:(Str.ofString (if k > 0 then ", " else "":String)).length<=2:=by
   split
   ·exact zO9 rfl
   ·exact zO5 _
  have d:=z72 (acc++Str.ofString (if k > 0 then ", " else "":String)) t;have b:=z72 acc (Str.ofString (if k > 0 then ", " else "":String));show(textFrom (k+1) (acc++Str.ofString (if k > 0 then ", " else "":String)++t) r).length<=_;have h':(textFrom (k+1) (acc++Str.ofString (if k > 0 then ", " else "":String)++t) r).length<=(acc++Str.ofString (if k > 0 then ", " else "":String)++t).length+piled r:=h
  lia
theorem nH (a:List Str):(listText a).length<=piled a+2:=by
 unfold listText;rw[z72];have h:=uY a 0 (Str.ofString "[");have e1:(Str.ofString "[").length=1:=rfl;have b:(Str.ofString "]").length=1:=rfl;show(textFrom 0 (Str.ofString "[") a).length+(Str.ofString "]").length<=_
 lia
theorem qY (a:List Str):(tupleText a).length<=piled a+3:=by
 cases a with
 |nil=>decide +kernel
 |cons t r=>
  have h:=join_length_add (t::r) (by simp);unfold tupleText;rw[z72,z72];have e1:(Str.ofString "(").length=1:=rfl;have b:(Str.ofString (if(t::r).length == 1 then ",)" else ")":String)).length<=2:=by
   split
   ·exact zO9 rfl
   ·exact zR4 (show 1<2 by decide)
  show(Str.ofString "(").length+(Str.join ", " (t::r)).length+(Str.ofString (if(t::r).length == 1 then ",)" else ")":String)).length<=_
  lia
theorem wH {n:Nat}:∀(ds:List PyData),(∀d∈ds,zZ n d)->piled (PyData.shownAll ds)<=ds.length*(n+2)
 |[],_=>zO5 _
 |d::r,h=>by
  have a:=(h d zO1).len;have b:=wH r λe he=>h e (zN7 _ he);show piled (d.shown::PyData.shownAll r)<=_;rw[piled_cons,zQ2,Nat.succ_mul]
  lia
structure zX (n:Nat)(ds:List PyData):Prop where
 all:∀d∈ds,zZ n d
 dep:∀d∈ds,d.depth<=7
theorem zX.parts {n:Nat}:∀{ds:List PyData},zX n ds->PyData.showableAll ds=true/\PyData.hasDictAll ds=false/\PyData.depthAll ds<=7/\PyData.canLayAll0 ds=true
 |[],_=>⟨rfl,rfl,zO5 _,rfl⟩
 |d::r,h=>by
  obtain⟨a,b,c,e⟩:=zX.parts (ds:=r) ⟨λx f=>h.all x (zN7 _ f),λx f=>h.dep x (zN7 _ f)⟩;have hd:=h.all d zO1;have g:=h.dep d zO1;refine⟨?_,?_,?_,?_⟩
  ·simp only[PyData.showableAll,hd.shw,a,Bool.and_self]
  ·simp only[PyData.hasDictAll,hd.nod,b,Bool.or_self]
  ·simp only[PyData.depthAll];exact zB5 g c
  ·simp only[PyData.canLayAll0,hd.lay,e,Bool.and_self]
theorem zZ.list {n m:Nat}{ds:List PyData}(h:zX n ds)(e:ds.length*(n+2)+2<=m):zZ m (.list ds):=by
 obtain⟨a,b,c,f⟩:=h.parts;refine⟨by simp only[PyData.showable,a],by simp only[PyData.hasDict,b],by simp only[PyData.depth];exact zm0 c,?_,by simp only[PyData.canLay0,f]⟩;show(listText (PyData.shownAll ds)).length<=m;have d:=nH (PyData.shownAll ds);have g:=wH ds h.all;exact zm8 e d g
theorem zZ.tuple {n m:Nat}{ds:List PyData}(h:zX n ds)(e:ds.length*(n+2)+3<=m):zZ m (.tuple ds):=by
 obtain⟨a,b,c,f⟩:=h.parts;refine⟨by simp only[PyData.showable,a],by simp only[PyData.hasDict,b],by simp only[PyData.depth];exact zm0 c,?_,by simp only[PyData.canLay0,f]⟩;show(tupleText (PyData.shownAll ds)).length<=m;have d:=qY (PyData.shownAll ds);have g:=wH ds h.all;exact zm8 e d g
theorem dD {i:Int}(h0:-big<i)(a:i<big):i.natAbs.log2<1920:=by
 by_cases hn:i.natAbs=0
 ·rw[hn];decide
 ·have b:i.natAbs<2 ^ 256:=by
   have e:(2:Nat) ^ 256=115792089237316195423570985008687907853269984665640564039457584007913129639936:=by decide +kernel
   rw[e];unfold big at h0 a
   lia
  have c:i.natAbs.log2<256:=(Nat.log2_lt hn).mpr b
  lia
theorem zZ.int {i:Int}(h0:-big<i)(b:i<big):zZ 2000 (.int i):=by
 have a:=dD h0 b;refine⟨by simp only[PyData.showable,zZ2];exact a,rfl,zO5 _,?_,rfl⟩;have:=int_text_len_1921 a;show(Str.ofString (toString i)).length<=2000
 lia
theorem zZ.none :zZ 2000 .none:=⟨rfl,rfl,zO5 _,by decide +kernel,rfl⟩
theorem zZ.bool (b:Bool):zZ 2000 (.bool b):=⟨rfl,rfl,zO5 _,by cases b<;>decide +kernel,rfl⟩
theorem zZ.shaped {n:Nat}{d:PyData}(h:zZ n d):SeqAt.shaped d=true:=by
 unfold SeqAt.shaped;rw[h.lay,Bool.true_and,zZ2];have:=h.dep
 lia
section
variable {X:Cx}
end
def zM6 :PyData->Bool
 |.int _=>true
 |_=>false
def yS (lo hi:Int):PyData->Bool
 |.int i=>decide (lo<=i)&&decide (i<=hi)
 |_=>false
def pairD :PyData->Bool
 |.tuple ds=>decide ((ds.length:Int)=2)
 |_=>false
abbrev gO :PyData->Bool:=yS 0 1000000
def zM7 :PyData->Bool
 |.tuple [a,b]=>gO a&&gO b
 |_=>false
def zt5 :PyData->Option Int
 |.tuple [.int a,.int b]=>if gO (.int a)&&gO (.int b)then some (b-a)else none
 |_=>none
def wJ (d:PyData):Bool:=match zt5 d with
 |some k=>decide (0<=k)
 |none=>false
noncomputable def sub (p:Addr->Prop)(H:Hp):Hp:=λa=>open Classical in if p a then H a else none
theorem zi {p:Addr->Prop}{H:Hp}{a:Addr}{o:HO}(h:sub p H a=some o):p a/\H a=some o:=by
 unfold sub at h;split at h
 ·rename_i b;exact⟨b,h⟩
 ·cases h
theorem zF {p:Addr->Prop}{H:Hp}{a:Addr}{o:HO}(b:p a)(h:H a=some o):sub p H a=some o:=by
 unfold sub;rw[if_pos b];exact h
theorem zr {p q:Addr->Prop}{H H':Hp}(h:∀a o,p a->H a=some o->q a/\H' a=some o):zt (sub p H) (sub q H'):=λa o e=>by
 obtain⟨c,he⟩:=zi e;obtain⟨hq,b⟩:=h a o c he;exact zF hq b
theorem wG {p:Addr->Prop}{H:Hp}:zt (sub p H) H:=λ_ _ e=>(zi e).2
theorem zX.snoc {n:Nat}{ds:List PyData}{d:PyData}(h:zX n ds)(hd:zZ n d)(a:d.depth<=7):zX n (ds++[d]):=
 ⟨λe he=>(zP4.mp he).elim (h.all e) λz=>by rw[zP8.mp z];exact hd,λe he=>(zP4.mp he).elim (h.dep e) λz=>by rw[zP8.mp z];exact a⟩
theorem zX.nil {n:Nat}:zX n []:=⟨λd hd=>by simp at hd,λd hd=>by simp at hd⟩
theorem zX.two {n:Nat}{d e:PyData}(hd:zZ n d)(he:zZ n e)(a:d.depth<=7)(b:e.depth<=7):zX n [d,e]:=(zX.nil.snoc hd a).snoc he b
section
variable {X:Cx}{e:Expr}{es:List Expr}
def vP (X:Cx)(e:Expr):TE:=λσ H Q=>∃t,PE X e t/\t σ H Q
theorem zf :PE X e (vP X e):=λpins s σ H Q I a=>by obtain⟨t,p,q⟩:=a;exact p pins s σ H Q I q
def zB2 (X:Cx)(e:Expr):TT:=λσ H Q=>∃t,PT X e t/\t σ H Q
theorem xh :PT X e (zB2 X e):=λpins s σ H Q I a=>by obtain⟨t,p,q⟩:=a;exact p pins s σ H Q I q
def zC7 (X:Cx)(es:List Expr):TA:=λσ H Q=>∃t,PA X es t/\t σ H Q
theorem yR :PA X es (zC7 X es):=λpos pins s σ H Q I a=>by obtain⟨t,p,q⟩:=a;exact p pos pins s σ H Q I q
end
def ny :Key->PyData
 |.inl i=>.int i
 |.inr x=>.str x
def xcO (a C:Addr)(d:Option Addr):HO:=.ext λh=>∃o vs,h.get? a=some o/\o.cls=.ref C/\o.dict=d/\o.data=.fields vs
mutual
inductive AV (H:Hp):V->PyData->Prop where
 |non:AV H .non .none
 |bl (b:Bool):AV H (.bl b) (.bool b)
 |int (i:Int):AV H (.int i) (.int i)
 |str (x:Str):AV H (.str x) (.str x)
 |lst {a:Addr}{xs:List V}{ds:List PyData}:H a=some (.lst xs)->AVs H xs ds->AV H (.ref a) (.list ds)
 |tup {a:Addr}{xs:List V}{ds:List PyData}:H a=some (.tup xs)->AVs H xs ds->AV H (.ref a) (.tuple ds)
 |ins {a C dx:Addr}{fs:List (Str×V)}{ds:List (PyData×PyData)}:H a=some (.ins C dx fs)->AVf H fs ds->AV H (.ref a) (.dict ((.int (C:Nat),.none)::ds))
 |dk {a:Addr}{o:Obj}{kvs:List (Key×V)}{ds:List (PyData×PyData)}:H a=some (.frz o (.dK kvs))->AVk H kvs ds->AV H (.ref a) (.dict ((.none,.none)::ds))
 |dt {a:Addr}{o:Obj}{kvs:List (List Key×V)}{ds:List (PyData×PyData)}:H a=some (.frz o (.dT kvs))->AVt H kvs ds->AV H (.ref a) (.dict ((.none,.bool true)::ds))
 |xc {a C dx:Addr}{fs:List (Str×V)}{ds:List (PyData×PyData)}:H a=some (xcO a C (some dx))->H dx=some (.xd fs)->AVf H fs ds->AV H (.ref a) (.dict ((.int (C:Nat),.bool true)::ds))
 |xn {a C:Addr}:H a=some (xcO a C none)->AV H (.ref a) (.dict [(.int (C:Nat),.bool false)])
inductive AVs (H:Hp):List V->List PyData->Prop where
 |nil:AVs H [] []
 |cons {x:V}{xs:List V}{d:PyData}{ds:List PyData}:AV H x d->AVs H xs ds->AVs H (x::xs) (d::ds)
inductive AVf (H:Hp):List (Str×V)->List (PyData×PyData)->Prop where
 |nil:AVf H [] []
 |cons {f:Str}{x:V}{fs:List (Str×V)}{d:PyData}{ds:List (PyData×PyData)}:AV H x d->AVf H fs ds->AVf H ((f,x)::fs) ((.str f,d)::ds)
inductive AVk (H:Hp):List (Key×V)->List (PyData×PyData)->Prop where
 |nil:AVk H [] []
 |cons {k:Key}{x:V}{fs:List (Key×V)}{d:PyData}{ds:List (PyData×PyData)}:AV H x d->AVk H fs ds->AVk H ((k,x)::fs) ((ny k,d)::ds)
inductive AVt (H:Hp):List (List Key×V)->List (PyData×PyData)->Prop where
 |nil:AVt H [] []
 |cons {k:List Key}{x:V}{fs:List (List Key×V)}{d:PyData}{ds:List (PyData×PyData)}:AV H x d->AVt H fs ds->AVt H ((k,x)::fs) ((.tuple (k.map ny),d)::ds)
end
theorem cO {H:Hp}{m1:V->PyData->Prop}{m2:List V->List PyData->Prop}{m3:List (Str×V)->List (PyData×PyData)->Prop}{m4:List (Key×V)->List (PyData×PyData)->Prop}{m5:List (List Key×V)->List (PyData×PyData)->Prop}
  (n:m1 .non .none) (A:∀b,m1 (.bl b) (.bool b)) (g:∀i,m1 (.int i) (.int i)) (w:∀x,m1 (.str x) (.str x))
  (T:∀{a xs ds},H a=some (.lst xs)->m2 xs ds->m1 (.ref a) (.list ds)) (R:∀{a xs ds},H a=some (.tup xs)->m2 xs ds->m1 (.ref a) (.tuple ds))
  (N:∀{a C dx fs ds},H a=some (.ins C dx fs)->m3 fs ds->m1 (.ref a) (.dict ((.int (C:Nat),.none)::ds))) (Q:∀{a o kvs ds},H a=some (.frz o (.dK kvs))->m4 kvs ds->m1 (.ref a) (.dict ((.none,.none)::ds)))
  (L:∀{a o kvs ds},H a=some (.frz o (.dT kvs))->m5 kvs ds->m1 (.ref a) (.dict ((.none,.bool true)::ds))) (K:∀{a C dx fs ds},H a=some (xcO a C (some dx))->H dx=some (.xd fs)->m3 fs ds->m1 (.ref a) (.dict ((.int (C:Nat),.bool true)::ds)))
  (c:∀{a C},H a=some (xcO a C none)->m1 (.ref a) (.dict [(.int (C:Nat),.bool false)]))
  (n2:m2 [] []) (S:∀{x xs d ds},m1 x d->m2 xs ds->m2 (x::xs) (d::ds)) (t:m3 [] []) (P:∀{f x fs d ds},m1 x d->m3 fs ds->m3 ((f,x)::fs) ((.str f,d)::ds))
  (I:m4 [] []) (U:∀{k x fs d ds},m1 x d->m4 fs ds->m4 ((k,x)::fs) ((ny k,d)::ds)) (E:m5 [] []) (M:∀{k x fs d ds},m1 x d->m5 fs ds->m5 ((k,x)::fs) ((.tuple (k.map ny),d)::ds)):
  (∀x d,AV H x d->m1 x d)/\(∀x d,AVs H x d->m2 x d)/\(∀x d,AVf H x d->m3 x d)/\(∀x d,AVk H x d->m4 x d)/\∀x d,AVt H x d->m5 x d:=by
 have u:=λ{a} {xs} {ds} (q:H a=some (.lst xs)) (_:AVs H xs ds) (z:m2 xs ds)=>T q z;have r:=λ{a} {xs} {ds} (q:H a=some (.tup xs)) (_:AVs H xs ds) (z:m2 xs ds)=>R q z;have l:=λ{a C dx} {fs} {ds} (q:H a=some (.ins C dx fs)) (_:AVf H fs ds) (z:m3 fs ds)=>N q z;have p:=λ{a o} {fs} {ds} (q:H a=some (.frz o (.dK fs))) (_:AVk H fs ds) (z:m4 fs ds)=>Q q z;have B:=λ{a o} {fs} {ds} (q:H a=some (.frz o (.dT fs))) (_:AVt H fs ds) (z:m5 fs ds)=>L q z;have e:=λ{a C dx} {fs} {ds} (q:H a=some (xcO a C (some dx))) (O:H dx=some (.xd fs)) (_:AVf H fs ds) (z:m3 fs ds)=>K q O z;have m:=λ{x} {xs} {d} {ds} (_:AV H x d) (_:AVs H xs ds) (y:m1 x d) (z:m2 xs ds)=>S y z;have D:=λ{f} {x} {fs} {d} {ds} (_:AV H x d) (_:AVf H fs ds) (y:m1 x d) (z:m3 fs ds)=>P (f:=f) y z;have s:=λ{k} {x} {fs} {d} {ds} (_:AV H x d) (_:AVk H fs ds) (y:m1 x d) (z:m4 fs ds)=>U (k:=k) y z;have J:=λ{k} {x} {fs} {d} {ds} (_:AV H x d) (_:AVt H fs ds) (y:m1 x d) (z:m5 fs ds)=>M (k:=k) y z
 let v:=λx d (_:AV H x d)=>m1 x d
 let M2:=λx d (_:AVs H x d)=>m2 x d
 let F:=λx d (_:AVf H x d)=>m3 x d
 let G:=λx d (_:AVk H x d)=>m4 x d
 let j:=λx d (_:AVt H x d)=>m5 x d
 exact⟨λ_ _ h=>@AV.rec H v M2 F G j n A g w u r l p B e c n2 m t D I s E J _ _ h,λ_ _ h=>@AVs.rec H v M2 F G j n A g w u r l p B e c n2 m t D I s E J _ _ h,λ_ _ h=>@AVf.rec H v M2 F G j n A g w u r l p B e c n2 m t D I s E J _ _ h,λ_ _ h=>@AVk.rec H v M2 F G j n A g w u r l p B e c n2 m t D I s E J _ _ h,λ_ _ h=>@AVt.rec H v M2 F G j n A g w u r l p B e c n2 m t D I s E J _ _ h⟩
theorem AVs.ind {H:Hp}{motive:(xs:List V)->(ds:List PyData)->AVs H xs ds->Prop}(nil:motive [] [] .nil)(cons:∀{x:V}{xs:List V}{d:PyData}{ds:List PyData} (a:AV H x d) (r:AVs H xs ds),motive xs ds r->motive (x::xs) (d::ds) (.cons a r)){xs:List V}{ds:List PyData}(h:AVs H xs ds):motive xs ds h:=
 ((cO (m1:=AV H) (m2:=λxs ds=>∃h:AVs H xs ds,motive xs ds h) (m3:=AVf H) (m4:=AVk H) (m5:=AVt H) .non .bl .int .str (λq z=>.lst q z.1) (λq z=>.tup q z.1) .ins .dk .dt .xc .xn ⟨.nil,nil⟩ (λa z=>⟨.cons a z.1,cons a z.1 z.2⟩) .nil .cons .nil .cons .nil .cons).2.1 _ _ h).2
theorem AVf.ind {H:Hp}{motive:(xs:List (Str×V))->(ds:List (PyData×PyData))->AVf H xs ds->Prop}(nil:motive [] [] .nil)(cons:∀{f:Str}{x:V}{fs:List (Str×V)}{d:PyData}{ds:List (PyData×PyData)} (a:AV H x d) (r:AVf H fs ds),motive fs ds r->motive ((f,x)::fs) ((.str f,d)::ds) (.cons a r)){xs:List (Str×V)}{ds:List (PyData×PyData)}(h:AVf H xs ds):motive xs ds h:=
 ((cO (m1:=AV H) (m2:=AVs H) (m3:=λxs ds=>∃h:AVf H xs ds,motive xs ds h) (m4:=AVk H) (m5:=AVt H) .non .bl .int .str .lst .tup (λq z=>.ins q z.1) .dk .dt (λq s z=>.xc q s z.1) .xn .nil .cons ⟨.nil,nil⟩ (λa z=>⟨.cons a z.1,cons a z.1 z.2⟩) .nil .cons .nil .cons).2.2.1 _ _ h).2
theorem cS {H H':Hp}(e:zt H H'):(∀x d,AV H x d->AV H' x d)/\(∀x d,AVs H x d->AVs H' x d)/\(∀x d,AVf H x d->AVf H' x d)/\(∀x d,AVk H x d->AVk H' x d)/\∀x d,AVt H x d->AVt H' x d:=by refine cO (m1:=λx d=>AV H' x d) (m2:=λx d=>AVs H' x d) (m3:=λx d=>AVf H' x d) (m4:=λx d=>AVk H' x d) (m5:=λx d=>AVt H' x d) .non .bl .int .str (λhq a=>.lst (e _ _ hq) a) (λhq a=>.tup (e _ _ hq) a) (λhq a=>.ins (e _ _ hq) a) (λhq a=>.dk (e _ _ hq) a) (λhq a=>.dt (e _ _ hq) a) (λhq hd a=>.xc (e _ _ hq) (e _ _ hd) a) (λhq=>.xn (e _ _ hq)) .nil .cons .nil .cons .nil .cons .nil .cons
theorem AV.same {H H':Hp}(e:zt H H'){x:V}{d:PyData}(h:AV H x d):AV H' x d:=(cS e).1 _ _ h
theorem AVs.same {H H':Hp}(e:zt H H'){xs:List V}{ds:List PyData}(h:AVs H xs ds):AVs H' xs ds:=(cS e).2.1 _ _ h
theorem AVk.same {H H':Hp}(e:zt H H'){fs:List (Key×V)}{ds:List (PyData×PyData)}(h:AVk H fs ds):AVk H' fs ds:=(cS e).2.2.2.1 _ _ h
theorem dv5 {H:Hp}:(∀x d,AV H x d->d.hasDict=false->DV H x d)/\(∀x d,AVs H x d->PyData.hasDictAll d=false->DVs H x d):=by
 have r:=cO (H:=H) (m1:=λx d=>d.hasDict=false->DV H x d) (m2:=λx d=>PyData.hasDictAll d=false->DVs H x d) (m3:=λ_ _=>True) (m4:=λ_ _=>True) (m5:=λ_ _=>True) (λ_=>.non) (λb _=>.bl b) (λi _=>.int i) (λx _=>.str x) (λhq a h=>.lst hq (a (by simpa only[PyData.hasDict]using h))) (λhq a h=>.tup hq (a (by simpa only[PyData.hasDict]using h))) (λ_ _ h=>by simp[PyData.hasDict]at h) (λ_ _ h=>by simp[PyData.hasDict]at h) (λ_ _ h=>by simp[PyData.hasDict]at h) (λ_ _ _ h=>by simp[PyData.hasDict]at h) (λ_ h=>by simp[PyData.hasDict]at h) (λ_=>.nil)
  (λh a e=>by
   simp only[PyData.hasDictAll,Bool.or_eq_false_iff]at e;exact .cons (h e.1) (a e.2)) trivial (λ_ _=>trivial) trivial (λ_ _=>trivial) trivial (λ_ _=>trivial)
 exact⟨r.1,r.2.1⟩
theorem AV.dv {H:Hp}{x:V}{d:PyData}(h:AV H x d)(e:d.hasDict=false):DV H x d:=dv5.1 _ _ h e
theorem AVs.length {H:Hp}{xs:List V}{ds:List PyData}(h:AVs H xs ds):xs.length=ds.length:=h.ind (motive:=λxs ds _=>xs.length=ds.length) rfl λ_ _ z=>congrArg (·+1) z
theorem AVs.append {H:Hp}{xs ys:List V}{ds es:List PyData}(h:AVs H xs ds)(k:AVs H ys es):AVs H (xs++ys) (ds++es):=h.ind (motive:=λxs ds _=>AVs H (xs++ys) (ds++es)) k λa _ z=>.cons a z
theorem AVs.get {H:Hp}{xs:List V}{ds:List PyData}{i:Nat}{d:PyData}(h:AVs H xs ds)(e:ds[i]?=some d):∃x,xs[i]?=some x/\AV H x d:=by
 induction h using AVs.ind generalizing i with
 |nil=>simp at e
 |cons a _ b=>
  cases i with
  |zero=>exact⟨_,rfl,zR0 e▸a⟩
  |succ i=>exact b (i:=i) e
theorem AVs.take {H:Hp}{xs:List V}{ds:List PyData}(n:Nat)(h:AVs H xs ds):AVs H (xs.take n) (ds.take n):=by
 induction h using AVs.ind generalizing n with
 |nil=>cases n<;>exact .nil
 |cons a _ b=>
  cases n with
  |zero=>exact .nil
  |succ n=>exact .cons a (b n)
theorem AVs.drop {H:Hp}{xs:List V}{ds:List PyData}(n:Nat)(h:AVs H xs ds):AVs H (xs.drop n) (ds.drop n):=by
 induction h using AVs.ind generalizing n with
 |nil=>cases n<;>exact .nil
 |cons a r b=>
  cases n with
  |zero=>exact .cons a r
  |succ n=>exact b n
theorem AVs.set {H:Hp}{x:V}{d:PyData}(a:AV H x d){xs:List V}{ds:List PyData}(i:Nat)(h:AVs H xs ds):AVs H (xs.set i x) (ds.set i d):=by
 induction h using AVs.ind generalizing i with
 |nil=>exact .nil
 |cons q r b=>
  cases i with
  |zero=>exact .cons a r
  |succ i=>exact .cons q (b i)
theorem AVs.atI {H:Hp}{xs:List V}{ds:List PyData}{i:Int}{d:PyData}(h:AVs H xs ds)(e:atI ds i=some d):∃x,L2.atI xs i=some x/\AV H x d:=by
 unfold L2.atI at e ⊢;rw[h.length];cases q:ixN ds.length i with
 |none=>rw[q]at e;cases e
 |some j=>
  rw[q]at e;exact h.get (i:=j) e
def cutD (ds:List PyData)(lo hi:Option Int):List PyData:=(ds.drop (HT.sIx ds.length 0 lo)).take (HT.sIx ds.length ds.length hi-HT.sIx ds.length 0 lo)
theorem AVs.cut {H:Hp}{xs:List V}{ds:List PyData}(h:AVs H xs ds)(lo hi:Option Int):AVs H (sR xs lo hi) (cutD ds lo hi):=by
 unfold sR cutD;rw[h.length];exact(h.drop _).take _
mutual
def noL :PyData->Bool
 |.list _=>false
 |.dict ((.none,_)::_)=>false
 |.dict kvs=>sU kvs
 |.tuple ds=>noLs ds
 |_=>true
def noLs :List PyData->Bool
 |[]=>true
 |d::r=>noL d&&noLs r
def sU :List (PyData×PyData)->Bool
 |[]=>true
 |(_,d)::r=>noL d&&sU r
end
def Ob :HO->Prop
 |.lst _=>True
 |.dK _=>True
 |.frz _ _=>True
 |_=>False
theorem zC2 {H H':Hp}(e:∀a o,¬Ob o->H a=some o->H' a=some o):(∀x d,AV H x d->noL d=true->AV H' x d)/\(∀x d,AVs H x d->noLs d=true->AVs H' x d)/\(∀x d,AVf H x d->sU d=true->AVf H' x d)/\(∀x d,AVk H x d->sU d=true->AVk H' x d):=by
 have r:=cO (H:=H) (m1:=λx d=>noL d=true->AV H' x d) (m2:=λx d=>noLs d=true->AVs H' x d) (m3:=λx d=>sU d=true->AVf H' x d) (m4:=λx d=>sU d=true->AVk H' x d) (m5:=λ_ _=>True) (λ_=>.non) (λb _=>.bl b) (λi _=>.int i) (λx _=>.str x) (λ_ _ h=>by simp[L2.noL]at h) (λhq c h=>.tup (e _ _ (λz=>z) hq) (c (by simpa only[L2.noL]using h))) (λhq c h=>.ins (e _ _ (λz=>z) hq) (c (by simpa[L2.noL,L2.sU]using h))) (λ_ _ h=>by simp[L2.noL]at h) (λ_ _ h=>by simp[L2.noL]at h) (λhq hd c h=>.xc (e _ _ (λz=>z) hq) (e _ _ (λz=>z) hd) (c (by simpa[L2.noL,L2.sU]using h))) (λhq _=>.xn (e _ _ (λz=>z) hq)) (λ_=>.nil)
  (λh c q=>by
   simp only[L2.noLs,zR5]at q;exact .cons (h q.1) (c q.2)) (λ_=>.nil)
  (λh c q=>by
   simp only[L2.sU,zR5]at q;exact .cons (h q.1) (c q.2)) (λ_=>.nil)
  (λh c q=>by
   simp only[L2.sU,zR5]at q;exact .cons (h q.1) (c q.2)) trivial (λ_ _=>trivial)
 exact⟨r.1,r.2.1,r.2.2.1,r.2.2.2.1⟩
theorem AV.noL {H H':Hp}(e:∀a o,¬Ob o->H a=some o->H' a=some o){x:V}{d:PyData}(h:AV H x d)(q:L2.noL d=true):AV H' x d:=(zC2 e).1 _ _ h q
theorem AVs.noL {H H':Hp}(e:∀a o,¬Ob o->H a=some o->H' a=some o){xs:List V}{ds:List PyData}(h:AVs H xs ds)(q:noLs ds=true):AVs H' xs ds:=(zC2 e).2.1 _ _ h q
structure Fr where
 H0:Hp
 O0:Addr->Prop
 tp:Option (Addr×Addr×Addr)
inductive A where
 |dat (d:PyData)
 |ow (c:PyData)
 |deep (d:PyData) (S:Addr->Prop)
 |tape
 |at(l:Addr)
 |exc (r:Fr) (q:PyData->Prop)
 |pin (l:Addr) (vs:List V) (ds:List PyData)
 |nst (l:Addr) (ls:List Addr) (dss:List (List PyData))
@[reducible] def A.own (ds:List PyData):A:=.ow (.list ds)
abbrev zc4 (ds:List (PyData×PyData)):PyData:=.dict ((.none,.none)::ds)
abbrev Ev :=List (Option A)
def wM (o:HO):Prop:=∀a,o≠.tup a
theorem xO {xs:List V}:wM (.lst xs):=λ_ z=>by cases z
theorem Ob.notup {o:HO}(h:Ob o):wM o:=λa z=>by subst z;exact h
def NT (F:Fr)(x:Addr):Prop:=(∀t b c,F.tp=some (t,b,c)->x≠t/\x≠b)/\¬tD x
def Kz (F:Fr)(H H':Hp):Prop:=∀x o,H x=some o->NT F x->H' x=some o
structure zE (F:Fr)(H:Hp):Prop where
 tab:TabAt H
 ot:∀x,tD x->F.O0 x
 all:∀t b c,F.tp=some (t,b,c)->yN H t b c/\F.O0 t/\F.O0 b/\F.O0 c
instance {F:Fr} {H:Hp}:CoeFun (zE F H) (λ_=>∀t b c,F.tp=some (t,b,c)->yN H t b c/\F.O0 t/\F.O0 b/\F.O0 c):=⟨zE.all⟩
theorem zE.to {F F':Fr}{H:Hp}(t:zE F H)(j:F'.tp=F.tp)(d:∀x,F.O0 x->F'.O0 x):zE F' H:=⟨t.tab,λx h=>d x (t.ot x h),λa b c e=>by
 obtain⟨f,g,i,k⟩:=t a b c (j▸e);exact⟨f,d _ g,d _ i,d _ k⟩⟩
theorem zE.re {F F':Fr}{H H':Hp}(t:zE F H)(t':zE F' H')(d:F'.tp=F.tp):zE F H':=⟨t'.tab,t.ot,λa b c e=>⟨(t' a b c (d▸e)).1,(t a b c e).2⟩⟩
theorem zE.upd {F:Fr}{H:Hp}{l:Addr}{o:HO}(t:zE F H)(h:∀a b c,F.tp=some (a,b,c)->l≠a/\l≠b/\l≠c)(d:Plain H l):zE F (upd H l o):=⟨zf7 t.tab d,t.ot,λa b c e=>⟨dP (t a b c e).1 (h a b c e),(t a b c e).2⟩⟩
theorem zE.updO {F:Fr}{H:Hp}{l:Addr}{o:HO}(t:zE F H)(h:¬F.O0 l)(d:Plain H l):zE F (L2.upd H l o):=t.upd (λa b c e=>⟨λz=>h (by rw[z];exact(t a b c e).2.1),λz=>h (by rw[z];exact(t a b c e).2.2.1),λz=>h (by rw[z];exact(t a b c e).2.2.2)⟩) d
def foot (s:Option V):A->Addr->Prop
 |.ow _,x=>s=some (.ref x)
 |.deep _ S,x=>S x
 |.nst l ls _,x=>x∈l::ls
 |_,_=>False
def Ow (F:Fr)(α:Ev)(σ:St)(x:Addr):Prop:=F.O0 x\/∃(i:Nat) (a:A) (s:Option V),α[i]?=some (some a)/\σ[i]?=some s/\foot s a x
noncomputable abbrev Gz (F:Fr)(α:Ev)(σ:St)(H:Hp):Hp:=sub (λx=>¬Ow F α σ x) H
noncomputable def mF (S:Addr->Prop)(G H:Hp):Hp:=λx=>open Classical in if S x then H x else match G x with
 |some (.lst _)=>none
 |o=>o
theorem uQ {S:Addr->Prop}{G a H H':Hp}(h:zt G a)(b:∀x o,S x->H x=some o->H' x=some o):zt (mF S G H) (mF S a H'):=λx o e=>by
 unfold mF at e ⊢;by_cases z:S x
 ·rw[if_pos z]at e ⊢;exact b x o z e
 ·rw[if_neg z]at e ⊢;cases q:G x with
  |none=>rw[q]at e;cases e
  |some u=>
   rw[h _ _ q];rw[q]at e;exact e
theorem bt {S:Addr->Prop}{G H:Hp}{x:Addr}{o:HO}(h:mF S G H x=some o):(S x/\H x=some o)\/(¬S x/\G x=some o):=by
 unfold mF at h;by_cases z:S x
 ·rw[if_pos z]at h;exact .inl ⟨z,h⟩
 ·rw[if_neg z]at h;split at h
  ·cases h
  ·exact .inr ⟨z,h⟩
inductive yT (G:Hp):HO->PyData->Prop where
 |lst {xs:List V}{ds:List PyData}:AVs G xs ds->yT G (.lst xs) (.list ds)
 |dk {kvs:List (Key×V)}{ds:List (PyData×PyData)}:AVk G kvs ds->yT G (.dK kvs) (zc4 ds)
theorem yT.ob {G:Hp}{o:HO}{c:PyData}(h:yT G o c):Ob o:=by cases h<;>trivial
theorem yT.same {G a:Hp}{o:HO}{c:PyData}(h:yT G o c)(s:zt G a):yT a o c:=by
 cases h with
 |lst h=>exact .lst (h.same s)
 |dk h=>exact .dk (h.same s)
theorem yT.av {G:Hp}{o:HO}{ds:List PyData}{l:Addr}(h:yT G o (.list ds))(e:G l=some o):AV G (.ref l) (.list ds):=by
 cases h with
 |lst h=>exact .lst e h
theorem yT.lst_inv {G:Hp}{o:HO}{ds:List PyData}(h:yT G o (.list ds)):∃xs,o=.lst xs/\AVs G xs ds:=by cases h;exact⟨_,rfl,by assumption⟩
theorem yT.plain {G H:Hp}{o:HO}{c:PyData}{l:Addr}(h:yT G o c)(e:H l=some o):Plain H l:=by
 cases h with
 |lst h=>exact qL e
 |dk h=>exact bO e
structure Lnk (r F:Fr)(H:Hp):Prop where
 tp:r.tp=F.tp
 o:∀x,r.O0 x->F.O0 x
 ok:zE r H
 k:Kz r r.H0 H
def xF (G H:Hp):List Addr->List (List PyData)->Prop
 |[],[]=>True
 |a::ls,ds::dss=>(∃xs,H a=some (.lst xs)/\AVs G xs ds)/\xF G H ls dss
 |_,_=>False
theorem xF.same {G c H H':Hp}(g:zt G c):∀{ls:List Addr}{dss:List (List PyData)},(∀a∈ls,∀o,H a=some o->H' a=some o)->xF G H ls dss->xF c H' ls dss
 |[],[],_,_=>trivial
 |a::ls,ds::dss,h,⟨⟨xs,e,av⟩,r⟩=>⟨⟨xs,h a zO1 _ e,av.same g⟩,xF.same g (λb hb=>h b (zN7 _ hb)) r⟩
 |[],_::_,_,z=>z.elim
 |_::_,[],_,z=>z.elim
theorem xF.obj {G H:Hp}:∀{ls:List Addr}{dss:List (List PyData)},xF G H ls dss->∀a∈ls,∃xs,H a=some (.lst xs)
 |[],_,_,_,h=>by cases h
 |b::ls,ds::dss,⟨⟨xs,e,_⟩,r⟩,a,h=>by
  rcases zN6.mp h with z|z
  ·exact⟨xs,z▸e⟩
  ·exact xF.obj r a z
 |_::_,[],z,_,_=>z.elim
theorem xF.avs {G H:Hp}{p:Addr->Prop}(g:zt G (sub p H)):∀{ls:List Addr}{dss:List (List PyData)},(∀a∈ls,p a)->xF G H ls dss->AVs (sub p H) (ls.map .ref) (dss.map .list)
 |[],[],_,_=>.nil
 |a::ls,ds::dss,h,⟨⟨xs,e,av⟩,r⟩=>.cons (.lst (zF (h a zO1) e) (av.same g)) (xF.avs g (λb hb=>h b (zN7 _ hb)) r)
 |[],_::_,_,z=>z.elim
 |_::_,[],_,z=>z.elim
def xB (G:Hp)(F:Fr)(H:Hp)(s:Option V):A->Prop
 |.dat d=>∃v,s=some v/\AV G v d
 |.ow c=>∃l o,s=some (.ref l)/\H l=some o/\yT G o c/\¬F.O0 l/\F.H0 l=none
 |.deep d S=>∃v,s=some v/\AV (mF S G H) v d/\∀x,S x->¬F.O0 x/\F.H0 x=none/\∃xs,H x=some (.lst xs)
 |.tape=>∃t b c,F.tp=some (t,b,c)/\s=some (.ref t)
 |.at l=>s=some (.ref l)
 |.exc r _=>Lnk r F H
 |.pin l vs ds=>s=some (.ref l)/\G l=some (.lst vs)/\AVs G vs ds
 |.nst l ls dss=>s=some (.ref l)/\H l=some (.lst (ls.map .ref))/\xF G H ls dss/\(l::ls).Nodup/\∀x∈l::ls,¬F.O0 x/\F.H0 x=none
structure M (F:Fr)(α:Ev)(σ:St)(H:Hp):Prop where
 len:α.length=σ.length
 ok:∀(i:Nat) (a:A) (s:Option V),α[i]?=some (some a)->σ[i]?=some s->xB (Gz F α σ H) F H s a
 dj:∀(i j:Nat) (a b:A) (s t:Option V) (x:Addr),α[i]?=some (some a)->α[j]?=some (some b)->σ[i]?=some s->σ[j]?=some t->foot s a x->foot t b x->i=j
 xd:∀(i:Nat) (r:Fr) (q:PyData->Prop),α[i]?=some (some (.exc r q))->∀(j:Nat) (a:A) (s:Option V) (x:Addr),α[j]?=some (some a)->σ[j]?=some s->foot s a x->r.H0 x=none
 tp:zE F H
 keep:Kz F F.H0 H
 oex:∀x,F.O0 x->∃o,H x=some o/\wM o
theorem M.at' {F:Fr}{α:Ev}{σ:St}{H:Hp}(m:M F α σ H){i:Nat}{a:Option A}(e:α[i]?=some a):∃s,σ[i]?=some s:=by
 have:i<σ.length:=by rw[<-m.len];exact(zN8.mp e).1
 exact⟨_,zN2 this⟩
theorem og {G:Hp}{F:Fr}{H:Hp}{s:Option V}{a:A}{x:Addr}(h:xB G F H s a)(f:foot s a x):¬F.O0 x/\F.H0 x=none/\∃o,H x=some o/\Ob o:=by
 cases a with
 |ow c=>
  obtain⟨l,o,j,k,b,m,i⟩:=h;have g:s=some (.ref x):=f;rw[g]at j;cases j;exact⟨m,i,o,k,b.ob⟩
 |deep d S=>
  obtain⟨v,j,k,b⟩:=h;obtain⟨n,p,xs,z3⟩:=b x f;exact⟨n,p,_,z3,trivial⟩
 |dat d=>exact f.elim
 |tape=>exact f.elim
 |«at» l=>exact f.elim
 |exc r q=>exact f.elim
 |pin l vs ds=>exact f.elim
 |nst l ls dss=>
  obtain⟨j,k,b,m,i⟩:=h;have g:x∈l::ls:=f;refine⟨(i x g).1,(i x g).2,?_⟩;rcases zN6.mp g with z|z
  ·exact⟨.lst (ls.map .ref),z▸k,trivial⟩
  ·obtain⟨xs,e⟩:=b.obj x z;exact⟨.lst xs,e,trivial⟩
theorem Lnk.kz {r F:Fr}{H H':Hp}(l:Lnk r F H)(k:Kz F H H')(t:zE F H'):Lnk r F H':=⟨l.tp,l.o,l.ok.re t l.tp.symm,λx o e n=>k x o (l.k x o e n) ⟨λa b c z=>n.1 a b c (l.tp.trans z),n.2⟩⟩
theorem Lnk.none {r F:Fr}{H:Hp}(l:Lnk r F H){x:Addr}(h:H x=Option.none):r.H0 x=Option.none:=by
 cases q:r.H0 x with
 |none=>rfl
 |some o=>rw[l.k x o q ⟨λa b c e=>⟨((l.ok a b c e).1.free h).1,((l.ok a b c e).1.free h).2.1⟩,uq l.ok.tab h⟩]at h;cases h
def noX :A->Prop
 |.exc _ _=>False
 |_=>True
theorem xB.stay {G p:Hp}{F F':Fr}{H H':Hp}{s:Option V}{a:A}(h:xB G F H s a)(g:zt G p)(hf:∀x o,foot s a x->H x=some o->H' x=some o/\¬F'.O0 x/\F'.H0 x=none)(B:F'.tp=F.tp)(y:∀r q,a=.exc r q->Lnk r F H->Lnk r F' H'):xB p F' H' s a:=by
 cases a with
 |dat d=>obtain⟨v,f,i⟩:=h;exact⟨v,f,i.same g⟩
 |ow c=>
  obtain⟨l,o,f,i,j,u,w⟩:=h;obtain⟨k,n,z3⟩:=hf l o f i;exact⟨l,o,f,k,j.same g,n,z3⟩
 |deep d S=>
  obtain⟨v,f,i,j⟩:=h;refine⟨v,f,i.same (uQ g λx o z e=>(hf x o z e).1),λx z=>?_⟩;obtain⟨_,_,xs,e⟩:=j x z;obtain⟨k,n,z3⟩:=hf x _ z e;exact⟨n,z3,xs,k⟩
 |tape=>obtain⟨t,b,c,e,z⟩:=h;exact⟨t,b,c,B.trans e,z⟩
 |«at» l=>exact h
 |exc r q=>exact y r q rfl h
 |pin l vs ds=>exact⟨h.1,g _ _ h.2.1,h.2.2.same g⟩
 |nst l ls dss=>
  obtain⟨f,i,j,u,w⟩:=h;refine⟨f,(hf l _ zO1 i).1,j.same g λa ha o e=>(hf a o (zN7 _ ha) e).1,u,λx m=>?_⟩;rcases zN6.mp m with z|z
  ·exact(hf x _ m (z▸i)).2
  ·obtain⟨xs,e⟩:=j.obj x z;exact(hf x _ m e).2
section
variable {F:Fr}{α:Ev}{σ:St}{H H' H'':Hp}
theorem M.dat (m:M F α σ H)(i:Nat)(d:PyData)(e:α[i]?=some (some (.dat d))):∃v,σ[i]?=some (some v)/\AV (Gz F α σ H) v d:=by
 obtain⟨s,a⟩:=m.at' e;obtain⟨v,rfl,h⟩:=m.ok i _ s e a;exact⟨v,a,h⟩
theorem M.owc (m:M F α σ H)(i:Nat)(c:PyData)(e:α[i]?=some (some (.ow c))):∃l o,σ[i]?=some (some (.ref l))/\H l=some o/\yT (Gz F α σ H) o c/\¬F.O0 l/\F.H0 l=none:=by
 obtain⟨s,a⟩:=m.at' e;obtain⟨l,o,rfl,h⟩:=m.ok i _ s e a;exact⟨l,o,a,h⟩
theorem M.own (m:M F α σ H)(i:Nat)(ds:List PyData)(e:α[i]?=some (some (.own ds))):∃l xs,σ[i]?=some (some (.ref l))/\H l=some (.lst xs)/\AVs (Gz F α σ H) xs ds/\¬F.O0 l/\F.H0 l=none:=by
 obtain⟨l,o,a,b,c,d⟩:=m.owc i _ e;obtain⟨xs,rfl,f⟩:=c.lst_inv;exact⟨l,xs,a,b,f,d⟩
theorem M.tvar (m:M F α σ H)(i:Nat)(e:α[i]?=some (some .tape)):∃t b c,F.tp=some (t,b,c)/\σ[i]?=some (some (.ref t)):=by
 obtain⟨s,a⟩:=m.at' e;obtain⟨t,b,c,h,rfl⟩:=m.ok i _ s e a;exact⟨t,b,c,h,a⟩
theorem M.lnk (m:M F α σ H){i:Nat}{r:Fr}{q:PyData->Prop}(e:α[i]?=some (some (.exc r q))):Lnk r F H:=by
 obtain⟨s,a⟩:=m.at' e;exact m.ok i _ s e a
theorem Kz.refl :Kz F H H:=λ_ _ e _=>e
theorem Kz.trans (h:Kz F H H')(k:Kz F H' H''):Kz F H H'':=λx o e n=>k x o (h x o e n) n
theorem Kz.of_same (h:zt H H'):Kz F H H':=λx o e _=>h x o e
theorem zE.same (t:zE F H)(h:zt H H'):zE F H':=⟨zu3 t.tab h,t.ot,λa b c e=>⟨gI (t a b c e).1 h,(t a b c e).2⟩⟩
theorem zE.nt (t:zE F H){x:Addr}(h:¬F.O0 x):NT F x:=⟨λa b c e=>⟨λz=>h (z▸(t a b c e).2.1),λz=>h (z▸(t a b c e).2.2.1)⟩,λz=>h (t.ot x z)⟩
theorem ow0 {x:Addr}(h:¬Ow F α σ x):¬F.O0 x:=λz=>h (.inl z)
theorem Kz.gz (k:Kz F H H')(t:zE F H):zt (Gz F α σ H) (Gz F α σ H'):=zr λa o h e=>⟨h,k a o e (t.nt (ow0 h))⟩
theorem M.oex' (t:zE F H')(k:Kz F H H')(h:∀x,F.O0 x->∃o,H x=some o/\wM o):∀x,F.O0 x->∃o,H' x=some o/\wM o:=λx i=>by
 by_cases n:NT F x
 ·obtain⟨o,d,hn⟩:=h x i;exact⟨o,k _ _ d n,hn⟩
 ·by_cases z:tD x
  ·obtain⟨o,d,hn,_⟩:=tS t.tab z;exact⟨o,d,hn⟩
  ·have:∃a b c,F.tp=some (a,b,c)/\¬(x≠a/\x≠b):=by
    refine Classical.byContradiction λq=>n ⟨λa b c e=>?_,z⟩;exact Classical.byContradiction λw=>q ⟨a,b,c,e,w⟩
   obtain⟨a,b,c,e,w⟩:=this;obtain⟨n,bs,cs,_,e1,j,l,_⟩:=(t a b c e).1.ex;by_cases f:x=a
   ·exact⟨_,f▸e1,xO⟩
   ·by_cases g:x=b
    ·exact⟨_,g▸j,xO⟩
    ·exact absurd ⟨f,g⟩ w
theorem M.kz (m:M F α σ H)(k:Kz F H H')(t:zE F H'):M F α σ H' where
 len:=m.len
 ok:=λi a s e1 c=>(m.ok i a s e1 c).stay (k.gz m.tp) (λx o hf e=>by
  obtain⟨b,d,_⟩:=og (m.ok i a s e1 c) hf;exact⟨k x o e (m.tp.nt b),b,d⟩) rfl λr _ _ l=>l.kz k t
 dj:=m.dj
 xd:=m.xd
 tp:=t
 keep:=m.keep.trans k
 oex:=M.oex' t k m.oex
theorem M.ft (m:M F α σ H){i:Nat}{a:A}{s:Option V}{x:Addr}(e1:α[i]?=some (some a))(b:σ[i]?=some s)(f:foot s a x):¬F.O0 x/\F.H0 x=none/\∃o,H x=some o/\Ob o:=og (m.ok i a s e1 b) f
theorem M.owEx (m:M F α σ H){x:Addr}(h:Ow F α σ x):∃o,H x=some o/\wM o:=by
 rcases h with z|⟨i,a,s,e1,b,f⟩
 ·exact m.oex x z
 ·obtain⟨_,_,o,c,hb⟩:=m.ft e1 b f;exact⟨o,c,hb.notup⟩
theorem M.fresh (m:M F α σ H){l:Addr}(h:H l=none):¬Ow F α σ l:=λz=>by
 obtain⟨o,a,_⟩:=m.owEx z;rw[h]at a;cases a
theorem M.fresh0 (m:M F α σ H){l:Addr}(h:H l=none):F.H0 l=none:=by
 cases q:F.H0 l with
 |none=>rfl
 |some o=>rw[m.keep l o q (m.tp.nt λz=>m.fresh h (.inl z))]at h;cases h
theorem M.old (m:M F α σ H):zt (sub (λx=>¬F.O0 x) F.H0) (Gz F α σ H):=λa o e=>by
 obtain⟨c,d⟩:=zi e;refine zF ?_ (m.keep a o d (m.tp.nt c));rintro(z|⟨i,b,s,e1,g,f⟩)
 ·exact c z
 ·obtain⟨_,z,_⟩:=m.ft e1 g f;rw[d]at z;cases z
noncomputable def Fr.up (F:Fr)(G:Hp):Fr:={F with H0:=λx=>(F.H0 x).or (G x)}
theorem pH {G:Hp}{x:Addr}{o:HO}(h:F.H0 x=some o):(F.up G).H0 x=some o:=by show(F.H0 x).or (G x)=some o;rw[h];rfl
theorem jE {G:Hp}{x:Addr}(h:(F.up G).H0 x=none):F.H0 x=none:=by
 cases q:F.H0 x with
 |none=>rfl
 |some o=>rw[pH q]at h;cases h
theorem M.up (m:M F α σ H):M (F.up (Gz F α σ H)) α σ H where
 len:=m.len
 ok:=λi a s e1 c=>(m.ok i a s e1 c).stay (λ_ _ e=>e) (λx o hf e=>by
  obtain⟨d,f,_⟩:=m.ft e1 c hf;refine⟨e,d,?_⟩;show(F.H0 x).or (Gz F α σ H x)=none;rw[f];show Gz F α σ H x=none;cases q:Gz F α σ H x with
  |none=>rfl
  |some o=>exact absurd (.inr ⟨i,a,s,e1,c,hf⟩) (zi q).1) rfl λr _ _ l=>⟨l.tp,l.o,l.ok,l.k⟩
 dj:=m.dj
 xd:=m.xd
 tp:=m.tp.to rfl λ_ z=>z
 keep:=λx o e n=>by
  have b:(F.H0 x).or (Gz F α σ H x)=some o:=e;cases q:F.H0 x with
  |none=>rw[q,Option.none_or]at b;exact(zi b).2
  |some o'=>rw[q]at b;cases b;exact m.keep x _ q n
 oex:=m.oex
theorem M.down {G:Hp}(m:M (F.up G) α σ H):M F α σ H where
 len:=m.len
 ok:=λi a s e1 b=>(m.ok i a s e1 b).stay (λ_ _ e=>e) (λx o hf e=>by
  obtain⟨c,d,_⟩:=m.ft e1 b hf;exact⟨e,c,jE d⟩) rfl λr _ _ l=>⟨l.tp,l.o,l.ok,l.k⟩
 dj:=m.dj
 xd:=m.xd
 tp:=m.tp.to rfl λ_ z=>z
 keep:=λx o e n=>m.keep x o (pH e) n
 oex:=m.oex
theorem M.upold {α0:Ev}{b:St}{H1:Hp}(m0:M F α0 b H1)(m:M (F.up (Gz F α0 b H1)) α σ H):zt (Gz F α0 b H1) (Gz F α σ H):=λa o e=>by
 obtain⟨c,d⟩:=zi e;have f:(F.up (Gz F α0 b H1)).H0 a=some o:=by
  show(F.H0 a).or (Gz F α0 b H1 a)=some o;cases q:F.H0 a with
  |none=>exact e
  |some o'=>
   have:=m0.keep a o' q (m0.tp.nt (ow0 c));rw[d]at this;cases this;rfl
 exact m.old a o (zF (p:=λx=>¬F.O0 x) (ow0 c) f)
end
def yO (F:Fr)(α:Ev)(σ:St)(H:Hp)(v:V)(H':Hp)(ds:List PyData):Prop:=
 ∃l xs,v=.ref l/\H l=none/\H' l=some (.lst xs)/\AVs (sub (λx=>¬Ow F α σ x/\x≠l) H') xs ds
def cM (F:Fr)(α:Ev)(σ:St)(H:Hp)(v:V)(H':Hp)(c:PyData):Prop:=
 ∃l o,v=.ref l/\H l=none/\H' l=some o/\yT (sub (λx=>¬Ow F α σ x/\x≠l) H') o c
theorem yO.c {F:Fr}{α:Ev}{σ:St}{H H':Hp}{v:V}{ds:List PyData}(h:yO F α σ H v H' ds):cM F α σ H v H' (.list ds):=by
 obtain⟨l,xs,a,b,d,e⟩:=h;exact⟨l,_,a,b,d,.lst e⟩
theorem yO.av {F:Fr}{α:Ev}{σ:St}{H H':Hp}{v:V}{ds:List PyData}(m:M F α σ H)(h:yO F α σ H v H' ds):AV (Gz F α σ H') v (.list ds):=by
 obtain⟨l,xs,rfl,c,d,b⟩:=h;exact .lst (zF (m.fresh c) d) (b.same (zr λa o h e=>⟨h.1,e⟩))
section
variable (X:Cx)(α:Ev)
def EvD (e:Expr)(Q:PyData->Prop):Prop:=∀(F:Fr) (σ:St) (H:Hp) (R:VK),M F α σ H->(∀d v H',Q d->zE F H'->Kz F H H'->AV (Gz F α σ H') v d->R v H')->vP X e σ H R
def EvL (e:Expr)(Q:List PyData->Prop):Prop:=∀(F:Fr) (σ:St) (H:Hp) (R:VK),M F α σ H->(∀ds v H',Q ds->zE F H'->Kz F H H'->yO F α σ H v H' ds->R v H')->vP X e σ H R
def EvT (e:Expr)(Q:Bool->Prop):Prop:=∀(F:Fr) (σ:St) (H:Hp) (R:Bool->Hp->Prop),M F α σ H->(∀b H',Q b->zE F H'->Kz F H H'->R b H')->zB2 X e σ H R
def iY (F:Fr)(G:Hp)(v:V):A->Prop
 |.dat d=>AV G v d
 |.tape=>∃t b c,F.tp=some (t,b,c)/\v=.ref t
 |_=>False
inductive yf (F:Fr)(G:Hp):List V->List A->Prop where
 |nil:yf F G [] []
 |cons {v:V}{vs:List V}{a:A}{as:List A}:iY F G v a->yf F G vs as->yf F G (v::vs) (a::as)
def EvA (es:List Expr)(Q:List A->Prop):Prop:=∀(F:Fr) (σ:St) (H:Hp) (R:List V->Hp->Prop),M F α σ H->(∀as vs H',Q as->zE F H'->Kz F H H'->yf F (Gz F α σ H') vs as->R vs H')->zC7 X es σ H R
end
theorem iY.to {F F':Fr}{G d:Hp}(s:zt G d)(f:F'.tp=F.tp){v:V}:∀{a:A},iY F G v a->iY F' d v a
 |.dat _,h=>AV.same s h
 |.tape,⟨t,b,c,e,z⟩=>⟨t,b,c,f.trans e,z⟩
 |.ow _,h=>h
 |.deep _ _,h=>h
 |.at _,h=>h
 |.exc _ _,h=>h
 |.pin _ _ _,h=>h
 |.nst _ _ _,h=>h
theorem yf.to {F F':Fr}{G a:Hp}(s:zt G a)(c:F'.tp=F.tp){vs:List V}{as:List A}(h:yf F G vs as):yf F' a vs as:=by
 induction h with
 |nil=>exact .nil
 |cons h _ b=>exact .cons (h.to s c) b
theorem yf.length {F:Fr}{G:Hp}:∀{vs:List V}{as:List A},yf F G vs as->vs.length=as.length
 |_,_,.nil=>rfl
 |_,_,.cons _ r=>by rw[zQ2,zQ2,yf.length r]
def A.d :A->PyData
 |.dat d=>d
 |.ow c=>c
 |.deep d _=>d
 |.nst _ _ dss=>.list (dss.map .list)
 |_=>.none
def zg2 (F:Fr)(v:V)(H':Hp):A->Prop
 |.dat d=>AV (sub (λx=>¬F.O0 x) H') v d
 |.ow c=>∃l xs ds,v=.ref l/\c=.list ds/\F.H0 l=none/\¬F.O0 l/\H' l=some (.lst xs)/\AVs (sub (λx=>¬F.O0 x/\x≠l) H') xs ds
 |.deep d S=>AV (mF S (sub (λx=>¬F.O0 x) H') H') v d/\∀x,S x->¬F.O0 x/\F.H0 x=none/\∃xs,H' x=some (.lst xs)
 |.nst l ls dss=>v=.ref l/\H' l=some (.lst (ls.map .ref))/\xF (sub (λx=>¬F.O0 x/\x∉l::ls) H') H' ls dss/\(l::ls).Nodup/\∀x∈l::ls,¬F.O0 x/\F.H0 x=none
 |_=>False
def wy (F:Fr)(v:V)(H':Hp)(a:A):Prop:=zE F H'/\Kz F F.H0 H'/\zg2 F v H' a
def spA (φ:List A->(A->Prop)->Prop):Sp:=λvs H b _=>∃(F:Fr) (as:List A) (Q:A->Prop),F.H0=H/\zE F H/\(∀x,F.O0 x->∃o,H x=some o/\wM o)/\yf F (sub (λx=>¬F.O0 x) H) vs as/\φ as Q/\∀a v H',Q a->wy F v H' a->b v H'
theorem zg2.to {F F':Fr}{v:V}{H':Hp}{a:A}(r:zg2 F v H' a)(b:∀x,F'.O0 x->F.O0 x)(h0:∀x,F.H0 x=none->F'.H0 x=none):zg2 F' v H' a:=by
 have s:zt (sub (λx=>¬F.O0 x) H') (sub (λx=>¬F'.O0 x) H'):=zr λa o h e=>⟨λz=>h (b _ z),e⟩;cases a with
 |dat d=>exact AV.same s r
 |ow c=>
  obtain⟨l,xs,ds,f,p,g,j,k,i⟩:=r;exact⟨l,xs,ds,f,p,h0 _ g,λz=>j (b _ z),k,i.same (zr λa o h e=>⟨⟨λz=>h.1 (b _ z),h.2⟩,e⟩)⟩
 |deep d S=>
  obtain⟨f,g⟩:=r;refine⟨f.same (uQ s λ_ _ _ e=>e),λx z=>?_⟩;obtain⟨n,q,z3⟩:=g x z;exact⟨λw=>n (b _ w),h0 _ q,z3⟩
 |tape=>exact r
 |«at» _=>exact r
 |exc _ _=>exact r
 |pin _ _ _=>exact r
 |nst l ls dss=>
  obtain⟨f,g,j,k,i⟩:=r;exact⟨f,g,j.same (zr λa o h e=>⟨⟨λz=>h.1 (b _ z),h.2⟩,e⟩) (λ_ _ _ e=>e),k,λx m=>⟨λz=>(i x m).1 (b _ z),h0 _ (i x m).2⟩⟩
structure yo where
 nx:Ev->Prop
 rt:A->Prop
 bk:Ev->Prop:=λ_=>False
 ct:Ev->Prop:=λ_=>False
structure qg (F:Fr)(E:yo)(D:Ends):Prop where
 nx:∀α σ H,M F α σ H->E.nx α->D.nx σ H
 rt:∀a v H,wy F v H a->E.rt a->D.rt v H
 bk:∀α σ H,M F α σ H->E.bk α->D.bk σ H
 ct:∀α σ H,M F α σ H->E.ct α->D.ct σ H
def SvS (X:Cx)(α:Ev)(a:List Stmt)(E:yo):Prop:=∀(F:Fr) (σ:St) (H:Hp) (D:Ends),M F α σ H->qg F E D->dE X a D σ H
theorem qg.up {F:Fr}{G:Hp}{E:yo}{D:Ends}(e:qg F E D):qg (F.up G) E D where
 nx:=λα σ H m q=>e.nx α σ H m.down q
 bk:=λα σ H m q=>e.bk α σ H m.down q
 ct:=λα σ H m q=>e.ct α σ H m.down q
 rt:=λa v H r q=>e.rt a v H (by
  obtain⟨t,k,r⟩:=r;exact⟨t.to rfl λ_ z=>z,λx o e n=>k x o (pH e) n,r.to (λ_ z=>z) λx z=>jE z⟩) q
section
variable {X:Cx}{α:Ev}{e a b c:Expr}{es:List Expr}{pos p q:Pos}{Q:PyData->Prop}
theorem EvL.d (h:EvL X α e (λds=>Q (.list ds))):EvD X α e Q:=λF σ H R m k=>h F σ H R m λds v H' q t z f=>k _ v H' q t z (f.av m)
theorem EvD.imp {Q':PyData->Prop}(h:EvD X α e Q')(k:∀d,Q' d->Q d):EvD X α e Q:=λF σ H R m r=>h F σ H R m λd v H' q=>r d v H' (k d q)
theorem EvT.imp {Q Q':Bool->Prop}(h:EvT X α e Q')(k:∀d,Q' d->Q d):EvT X α e Q:=λF σ H R m r=>h F σ H R m λd H' q=>r d H' (k d q)
theorem zc (i:Nat){x:Str}{d:PyData}(hi:α[i]?=some (some (.dat d)))(q:Q d)(j:X.N[i]?=some x:=by rfl)(l:Vis X.env.scope x:=by first|exact Or.inl rfl|exact Or.inr (Or.inl rfl)|exact Or.inr (Or.inr rfl))
  (hd:(x == ("__debug__":Str))=false:=by decide) (f:(x == ("__classdict__":Str))=false:=by decide):EvD X α (.Name x pos) Q:=λF σ H R m k=>by
 obtain⟨v,g,h⟩:=m.dat i d hi;exact⟨_,yw j l hd f,v,g,k d v H q m.tp Kz.refl h⟩
theorem zL {i:Int}{j:Nat}(q:Q (.int i)):EvD X α (.Constant (.int i) j pos) Q:=λF σ H R m k=>⟨_,yc,k _ _ H q m.tp Kz.refl (.int i)⟩
theorem cX {i:Bool}{j:Nat}(q:Q (.bool i)):EvD X α (.Constant (.bool i) j pos) Q:=λF σ H R m k=>⟨_,zI6,k _ _ H q m.tp Kz.refl (.bl i)⟩
theorem mS {j:Nat}(q:Q .none):EvD X α (.Constant .none j pos) Q:=λF σ H R m k=>⟨_,fA,k _ _ H q m.tp Kz.refl .non⟩
theorem vL {x:Str}{j:Nat}(q:Q (.str x)):EvD X α (.Constant (.str x) j pos) Q:=λF σ H R m k=>⟨_,zy4,k _ _ H q m.tp Kz.refl (.str x)⟩
theorem yH {x:Str}{i:Int}(hg:Gl X x)(hm:∃t,X.mg x=some (.int i t))(q:Q (.int i))(hd:(x == ("__debug__":Str))=false:=by decide):EvD X α (.Name x pos) Q:=λF σ H R m k=>by
 obtain⟨t,hm⟩:=hm;exact⟨_,aT hg hm (show RelV (.int i) (.int i t)from⟨t,rfl⟩) hd,k _ _ H q m.tp Kz.refl (.int i)⟩
theorem sI {f:TE->TE->TE}(hf:PE X e (f (vP X a) (vP X b)))(hr:∀σ H R,f (vP X a) (vP X b) σ H R↔vP X a σ H (λx H1=>vP X b σ H1 λy j=>f (tC x) (tC y) σ j R))
  (h:EvD X α a λx=>EvD X α b λy=>∀(F:Fr) (σ:St) (H:Hp) (i g:V) (R:VK),M F α σ H->AV (Gz F α σ H) i x->AV (Gz F α σ H) g y->(∀d v H',Q d->zE F H'->Kz F H H'->AV (Gz F α σ H') v d->R v H')->f (tC i) (tC g) σ H R):
  EvD X α e Q:=λF σ H R m k=>by
 refine⟨_,hf,(hr σ H R).mpr ?_⟩;refine h F σ H _ m λx i H1 A t1 n z=>?_;have m1:=m.kz n t1;refine A F σ H1 _ m1 λy g j o u l w=>?_;exact o F σ j i g R (m1.kz l u) (z.same (l.gz m1.tp)) w λd v H' t t3 s r=>k d v H' t t3 ((n.trans l).trans s) r
theorem AV.int_inv {H:Hp}{v:V}{i:Int}(h:AV H v (.int i)):v=.int i:=by cases h;rfl
theorem AV.bl_inv {H:Hp}{v:V}{i:Bool}(h:AV H v (.bool i)):v=.bl i:=by cases h;rfl
theorem AV.str_inv {H:Hp}{v:V}{i:Str}(h:AV H v (.str i)):v=.str i:=by cases h;rfl
theorem AV.tup_inv {H:Hp}{v:V}{ds:List PyData}(h:AV H v (.tuple ds)):∃a xs,v=.ref a/\H a=some (.tup xs)/\AVs H xs ds:=by cases h;exact⟨_,_,rfl,by assumption,by assumption⟩
theorem AV.lst_inv {H:Hp}{v:V}{ds:List PyData}(h:AV H v (.list ds)):∃a xs,v=.ref a/\H a=some (.lst xs)/\AVs H xs ds:=by cases h;exact⟨_,_,rfl,by assumption,by assumption⟩
theorem AV.non_inv {H:Hp}{v:V}(h:AV H v .none):v=.non:=by cases h;rfl
theorem AV.isnon {H:Hp}{v:V}{d:PyData}(h:AV H v d):decide (v=.non)=(match d with|.none=>true|_=>false):=by cases h<;>simp
theorem oo {op:Operator}{C:Int->Int->Prop}{g:Int->Int->V}{gd:Int->Int->PyData}(l:OpR X (binaryOp op) (rI C g))(hg:∀H i j,AV H (g i j) (gd i j))
  (h:EvD X α a λx=>EvD X α b λy=>∃i j,x=.int i/\y=.int j/\C i j/\Q (gd i j)):EvD X α (.BinOp a op b pos) Q:=by
 refine sI (f:=tOp (rI C g)) (yW l zf zf) (λ_ _ _=>Iff.rfl) (h.imp λx h=>h.imp λy d=>?_);obtain⟨i,j,e1,o,r,hq⟩:=d;subst e1 o;intro F σ H u t R m n s k;cases n.int_inv;cases s.int_inv;exact⟨i,j,rfl,rfl,r,k _ _ H hq m.tp Kz.refl (hg _ i j)⟩
theorem jr {op:Operator}{g:Int->Int->V}{gd:Int->Int->PyData}(l:OpR X (binaryOp op) (rI0 g))(hg:∀H i j,AV H (g i j) (gd i j))
  (h:EvD X α a λx=>EvD X α b λy=>∃i j,x=.int i/\y=.int j/\Q (gd i j)):EvD X α (.BinOp a op b pos) Q:=by
 refine sI (f:=tOp (rI0 g)) (yW l zf zf) (λ_ _ _=>Iff.rfl) (h.imp λx h=>h.imp λy d=>?_);obtain⟨i,j,e1,o,hq⟩:=d;subst e1 o;intro F σ H t s R m n r k;cases n.int_inv;cases r.int_inv;exact⟨i,j,rfl,rfl,k _ _ H hq m.tp Kz.refl (hg _ i j)⟩
theorem uB (h:EvD X α a λx=>EvD X α b λy=>∃i j,x=.int i/\y=.int j/\Q (.int (i+j))):EvD X α (.BinOp a .Add b pos) Q:=jr (gd:=λi j=>.int (i+j)) oq (λ_ _ _=>.int _) h
theorem kA (h:EvD X α a λx=>EvD X α b λy=>∃i j,x=.int i/\y=.int j/\Q (.int (i-j))):EvD X α (.BinOp a .Sub b pos) Q:=jr (gd:=λi j=>.int (i-j)) zr8 (λ_ _ _=>.int _) h
theorem zy8 (h:EvD X α a λx=>EvD X α b λy=>∃i j,x=.int i/\y=.int j/\za9 i j/\Q (.int (i*j))):EvD X α (.BinOp a .Mult b pos) Q:=oo (gd:=λi j=>.int (i*j)) pL (λ_ _ _=>.int _) h
theorem zu8 (h:EvD X α a λx=>EvD X α b λy=>∃i j,x=.int i/\y=.int j/\zs5 i j/\Q (.int (i ^ j.toNat))):EvD X α (.BinOp a .Pow b pos) Q:=oo (gd:=λi j=>.int (i ^ j.toNat)) zu1 (λ_ _ _=>.int _) h
theorem dA (h:EvD X α a λx=>EvD X α b λy=>∃i j,x=.int i/\y=.int j/\0<j/\Q (.int (i % j))):EvD X α (.BinOp a .Mod b pos) Q:=oo (gd:=λi j=>.int (i % j)) rD (λ_ _ _=>.int _) h
theorem zf0 (h:EvD X α a λx=>EvD X α b λy=>∃i j,x=.int i/\y=.int j/\zh8 i j/\Q (.int (i / j))):EvD X α (.BinOp a .FloorDiv b pos) Q:=oo (gd:=λi j=>.int (i / j)) rV (λ_ _ _=>.int _) h
theorem uG {i j r:Int}{p1 p2:Pos}{n1 n2:Nat}(d:zs5 i j)(hr:i ^ j.toNat=r)(q:Q (.int r)):EvD X α (.BinOp (.Constant (.int i) n1 p1) .Pow (.Constant (.int j) n2 p2) pos) Q:=
 zu8 (zL (zL ⟨i,j,rfl,rfl,d,hr▸q⟩))
theorem zy0 (h:EvD X α a λx=>∃i,x=.int i/\Q (.int (-i))):EvD X α (.UnaryOp .USub a pos) Q:=λF σ H R m k=>by
 refine⟨_,zi4 cn zf,?_⟩;refine h F σ H _ m λx j H1 f t1 g d=>?_;obtain⟨i,rfl,q⟩:=f;cases d.int_inv;exact⟨i,rfl,k _ _ H1 q t1 g (.int _)⟩
theorem kR {op:CmpOp}{g:Int->Int->Bool}(l:OpR X (compareOp op) (rI0 λi j=>.bl (g i j)))(hm:behindInMarks op b=false)
  (h:EvD X α a λx=>EvD X α b λy=>∃i j,x=.int i/\y=.int j/\Q (.bool (g i j))):EvD X α (.Compare a [op] [b] pos) Q:=by
 refine sI (f:=tOp (rI0 λi j=>.bl (g i j))) (om l zf zf hm) (λ_ _ _=>Iff.rfl) (h.imp λx h=>h.imp λy d=>?_);obtain⟨i,j,e1,o,hq⟩:=d;subst e1 o;intro F σ H t s R m n r k;cases n.int_inv;cases r.int_inv;exact⟨i,j,rfl,rfl,k _ _ H hq m.tp Kz.refl (.bl _)⟩
theorem zn9 (h:EvD X α a λx=>EvD X α b λy=>∃i j,x=.int i/\y=.int j/\Q (.bool (decide (i<j)))):EvD X α (.Compare a [.Lt] [b] pos) Q:=kR zn8 (yJ _) h
theorem zD1 (h:EvD X α a λx=>EvD X α b λy=>∃i j,x=.int i/\y=.int j/\Q (.bool (decide (i<=j)))):EvD X α (.Compare a [.LtE] [b] pos) Q:=kR rq (yJ _) h
def yZ :PyData->Bool
 |.none=>true
 |_=>false
theorem AV.non_iff {H:Hp}{v:V}{d:PyData}(h:AV H v d):decide (v=.non)=yZ d:=by cases h<;>simp[yZ]
theorem zp2 {j:Nat}(h:EvD X α a λx=>Q (.bool (yZ x))):EvD X α (.Compare a [.Is] [.Constant .none j p] pos) Q:=λF σ H R m k=>by
 refine⟨_,om bV zf fA (yJ _),?_⟩;refine h F σ H _ m λx i H1 f t1 g d=>⟨rfl,?_⟩;rw[d.non_iff];exact k _ _ H1 f t1 g (.bl _)
theorem fo {op d:CmpOp}{g g':Int->Int->Bool}(E:OpR X (compareOp op) (rI0 λi j=>.bl (g i j)))(l:OpR X (compareOp d) (rI0 λi j=>.bl (g' i j)))(hm:lastMarks [op,d] [b,c]=false)
  (h:EvD X α a λx=>EvD X α b λy=>∃i j,x=.int i/\y=.int j/\(if g i j=true then EvD X α c λz=>∃k,z=.int k/\Q (.bool (g' j k))else Q (.bool false))):EvD X α (.Compare a [op,d] [b,c] pos) Q:=λF σ H R m k=>by
 refine⟨_,bH E l zf zf zf hm,?_⟩;refine h F σ H _ m λx L H1 w t1 o u=>?_;have m1:=m.kz o t1;refine w F σ H1 _ m1 λy J r B s n I=>?_;obtain⟨i,j,e1,v,hq⟩:=B;subst e1 v;cases u.int_inv;cases I.int_inv;have m2:=m1.kz n s;refine⟨i,j,rfl,rfl,_,rfl,?_⟩;cases hg:g i j with
 |true=>
  rw[hg]at hq;refine sQ ?_;refine(by simpa using hq:EvD X α c _) F σ r _ m2 λz K A G t3 C D=>?_;obtain⟨t,rfl,f⟩:=G;cases D.int_inv;exact⟨j,t,rfl,rfl,k _ _ A f t3 ((o.trans n).trans C) (.bl _)⟩
 |false=>
  rw[hg]at hq;exact rh (k _ _ r (by simpa using hq) s (o.trans n) (.bl _))
theorem eH {Q:Bool->Prop}(h:EvD X α e λx=>∃k,x=.bool k/\Q k)(he:∀whole,isTrue e X.env whole=(do let v <-whole;standAt e.pos;holding [v] (truthy v)):=by intro _;rfl):EvT X α e Q:=λF σ H R m k=>by
 refine⟨_,zo9 zf he,?_⟩;refine h F σ H _ m λx i H1 f t1 g d=>?_;obtain⟨b,rfl,q⟩:=f;cases d.bl_inv;exact⟨b,rfl,k b H1 q t1 g⟩
def Cmp (r:R2)(x y:PyData)(k:Bool):Prop:=∀(p:Addr->Prop) (H:Hp) (d f:V) (R:VK),AV (sub p H) d x->AV (sub p H) f y->R (.bl k) H->r d f H R
theorem wO {op:CmpOp}{r:R2}{Q:Bool->Prop}(j:OpR X (compareOp op) r)(hm:behindInMarks op b=false)(h:EvD X α a λx=>EvD X α b λy=>∃k,Cmp r x y k/\Q k):EvT X α (.Compare a [op] [b] pos) Q:=λF σ H R m k=>by
 refine⟨_,jA j zf zf hm,?_⟩;refine h F σ H _ m λx u H1 t t1 g s=>?_;have m1:=m.kz g t1;refine t F σ H1 _ m1 λy n d i l f o=>?_;obtain⟨b,v,q⟩:=i;exact v _ d u n _ (s.same (f.gz m1.tp)) o ⟨b,rfl,k b d q l (g.trans f)⟩
theorem aF {g:Int->Int->Bool}{i j:Int}:Cmp (rI0 λi j=>.bl (g i j)) (.int i) (.int j) (g i j):=λp H l k R d f h=>by
 cases d.int_inv;cases f.int_inv;exact⟨i,j,rfl,rfl,h⟩
theorem pJ {op:CmpOp}{g:Int->Int->Bool}{Q:Bool->Prop}(k:OpR X (compareOp op) (rI0 λi j=>.bl (g i j)))(hm:behindInMarks op b=false)
  (h:EvD X α a λx=>EvD X α b λy=>∃i j,x=.int i/\y=.int j/\Q (g i j)):EvT X α (.Compare a [op] [b] pos) Q:=
 wO k hm (h.imp λx h=>h.imp λy d=>by obtain⟨i,j,e1,f,q⟩:=d;exact⟨_,by subst e1 f;exact aF,q⟩)
theorem zE1 {Q:Bool->Prop}(h:EvD X α a λx=>EvD X α b λy=>∃i j,x=.int i/\y=.int j/\Q (decide (i<j))):EvT X α (.Compare a [.Lt] [b] pos) Q:=pJ zn8 (yJ _) h
theorem zm7 {Q:Bool->Prop}(h:EvD X α a λx=>EvD X α b λy=>∃i j,x=.int i/\y=.int j/\Q (decide (j<i))):EvT X α (.Compare a [.Gt] [b] pos) Q:=pJ zm1 (yJ _) h
theorem zo5 {Q:Bool->Prop}(h:EvD X α a λx=>EvD X α b λy=>∃i j,x=.int i/\y=.int j/\Q (decide (j<=i))):EvT X α (.Compare a [.GtE] [b] pos) Q:=pJ zC6 (yJ _) h
theorem vI {j:Nat}{Q:Bool->Prop}(h:EvD X α a λx=>Q (yZ x)):EvT X α (.Compare a [.Is] [.Constant .none j p] pos) Q:=
 wO bV (yJ _) (h.imp λx h=>mS ⟨_,λp H g i R d f z=>⟨f.non_inv,by rw[d.non_iff];exact z⟩,h⟩)
theorem ze0 {j:Nat}{Q:Bool->Prop}(h:EvD X α a λx=>Q (!yZ x)):EvT X α (.Compare a [.IsNot] [.Constant .none j p] pos) Q:=
 wO aH (yJ _) (h.imp λx h=>mS ⟨_,λp H g i R d f z=>⟨f.non_inv,by rw[d.non_iff];exact z⟩,h⟩)
def zL9 :PyData->Option Bool
 |.none=>some false
 |.bool b=>some b
 |.int i=>some (i != 0)
 |.list ds=>some (!ds.isEmpty)
 |.tuple ds=>some (!ds.isEmpty)
 |_=>none
theorem AVs.isEmpty {H:Hp}{xs:List V}{ds:List PyData}(h:AVs H xs ds):xs.isEmpty=ds.isEmpty:=by cases h<;>rfl
theorem bB {Q:Bool->Prop}(h:EvD X α e λx=>∃k,zL9 x=some k/\Q k)(he:∀whole,isTrue e X.env whole=(do let v <-whole;standAt e.pos;holding [v] (truthy v)):=by intro _;rfl):EvT X α e Q:=λF σ H R m k=>by
 refine⟨_,eu zf he,?_⟩;refine h F σ H _ m λx n H1 j t1 l g=>?_;obtain⟨b,hb,q⟩:=j;refine⟨b,?_,k b H1 q t1 l⟩;cases g with
 |non=>cases hb;rfl
 |bl z=>cases hb;rfl
 |int i=>cases hb;rfl
 |str s=>cases hb
 |lst d f=>cases hb;exact .inl ⟨_,SqL.of (zi d).2,by rw[f.isEmpty]⟩
 |tup d f=>cases hb;exact .inr (.inl ⟨_,SqT.of (zi d).2,by rw[f.isEmpty]⟩)
 |ins _ _=>cases hb
 |dk _ _=>cases hb
 |dt _ _=>cases hb
 |xc _ _ _=>cases hb
 |xn _=>cases hb
theorem ba {Q:Bool->Prop}(h:EvT X α a λk=>Q (!k)):EvT X α (.UnaryOp .Not a pos) Q:=λF σ H R m k=>by
 refine⟨_,zv5 xh,?_⟩;exact h F σ H _ m λb H1 d t1 f=>k _ H1 d t1 f
def EvW (X:Cx)(α:Ev)(e:Expr)(Q:Bool->Prop):Prop:=∀(F:Fr) (σ:St) (H:Hp) (R:Bool->Hp->Prop),M F α σ H->(∀b H',Q b->zE F H'->Kz F H H'->R b H')->∃t,PW X e t/\t σ H R
def zM1 (X:Cx)(e:Expr):TT:=λσ H Q=>∃t,PW X e t/\t σ H Q
theorem kW :PW X e (zM1 X e):=λw pins s σ H Q I d=>by obtain⟨t,p,q⟩:=d;exact p w pins s σ H Q I q
theorem EvW.t {Q:Bool->Prop}(h:EvW X α e Q):EvT X α e Q:=λF σ H R m k=>by
 obtain⟨t,p,q⟩:=h F σ H R m k;exact⟨t,p.pt,q⟩
variable {rest:List Expr}
theorem pC {Q:Bool->Prop}(h:EvT X α a Q):EvW X α (.BoolOp .And [a] pos) Q:=λF σ H R m k=>⟨_,zb0 xh,h F σ H R m k⟩
theorem zs6 {Q:Bool->Prop}(h:EvT X α a Q):EvW X α (.BoolOp .Or [a] pos) Q:=λF σ H R m k=>⟨_,zx0 xh,h F σ H R m k⟩
theorem oi {Q:Bool->Prop}(h:EvT X α a λk=>if k=true then EvW X α (.BoolOp .And (b::rest) pos) Q else Q false):EvW X α (.BoolOp .And (a::b::rest) pos) Q:=λF σ H R m k=>by
 refine⟨_,zw4 xh kW,?_⟩;refine h F σ H _ m λc H1 f t1 d=>?_;cases c with
 |true=>exact sQ ((by simpa using f:EvW X α _ Q) F σ H1 R (m.kz d t1) λb g i j l=>k b g i j (d.trans l))
 |false=>exact rh (k _ H1 (by simpa using f) t1 d)
theorem zo2 {Q:Bool->Prop}(h:EvT X α a λk=>if k=true then Q true else EvW X α (.BoolOp .Or (b::rest) pos) Q):EvW X α (.BoolOp .Or (a::b::rest) pos) Q:=λF σ H R m k=>by
 refine⟨_,zG8 xh kW,?_⟩;refine h F σ H _ m λc H1 f t1 d=>?_;cases c with
 |false=>exact rh ((by simpa using f:EvW X α _ Q) F σ H1 R (m.kz d t1) λb g i j l=>k b g i j (d.trans l))
 |true=>exact sQ (k _ H1 (by simpa using f) t1 d)
theorem zp6 {op}(h:EvD X α a Q):EvD X α (.BoolOp op [a] pos) Q:=λF σ H R m k=>⟨_,zs0 zf,h F σ H R m k⟩
theorem zs1 (h:EvD X α a λx=>∃k,x=.bool k/\if k=true then EvD X α (.BoolOp .And (b::rest) pos) Q else Q (.bool false)):EvD X α (.BoolOp .And (a::b::rest) pos) Q:=λF σ H R m k=>by
 refine⟨_,zp4 zf zf,?_⟩;refine h F σ H _ m λx s H1 f t1 g r=>?_;obtain⟨c,rfl,f⟩:=f;cases r.bl_inv;refine⟨c,rfl,?_⟩;cases c with
 |true=>exact sQ ((by simpa using f:EvD X α _ Q) F σ H1 R (m.kz g t1) λd v i j n l o=>k d v i j n (g.trans l) o)
 |false=>exact rh (k _ _ H1 (by simpa using f) t1 g (.bl _))
theorem zE3 (h:EvD X α a λx=>∃k,x=.bool k/\if k=true then Q (.bool true)else EvD X α (.BoolOp .Or (b::rest) pos) Q):EvD X α (.BoolOp .Or (a::b::rest) pos) Q:=λF σ H R m k=>by
 refine⟨_,zz1 zf zf,?_⟩;refine h F σ H _ m λx s H1 f t1 g r=>?_;obtain⟨c,rfl,f⟩:=f;cases r.bl_inv;refine⟨c,rfl,?_⟩;cases c with
 |false=>exact rh ((by simpa using f:EvD X α _ Q) F σ H1 R (m.kz g t1) λd v i j n l o=>k d v i j n (g.trans l) o)
 |true=>exact sQ (k _ _ H1 (by simpa using f) t1 g (.bl _))
theorem zr4 (h:EvD X α a λx=>∃k,x=.bool k/\Q (.bool (!k))):EvD X α (.UnaryOp .Not a pos) Q:=λF σ H R m k=>by
 refine⟨_,zt8 zf,?_⟩;refine h F σ H _ m λx i H1 f t1 g d=>?_;obtain⟨c,rfl,q⟩:=f;cases d.bl_inv;exact⟨c,rfl,k _ _ H1 q t1 g (.bl _)⟩
theorem lL (h:EvT X α c λk=>if k=true then EvD X α a Q else EvD X α b Q):EvD X α (.IfExp c a b pos) Q:=λF σ H R m k=>by
 refine⟨_,dI xh zf zf,?_⟩;refine h F σ H _ m λx H1 o t1 f=>?_;cases x with
 |true=>exact sQ ((by simpa using o:EvD X α _ Q) F σ H1 R (m.kz f t1) λd v g i l j n=>k d v g i l (f.trans j) n)
 |false=>exact rh ((by simpa using o:EvD X α _ Q) F σ H1 R (m.kz f t1) λd v g i l j n=>k d v g i l (f.trans j) n)
theorem yz (l:pq b)(h:EvD X α a λx=>EvD X α b λy=>∃ds i d,x=.tuple ds/\y=.int i/\atI ds i=some d/\Q d):EvD X α (.Subscript a b pos) Q:=by
 refine sI (f:=tOp (zt6 X.K)) (vA dQ zf zf l) (λ_ _ _=>Iff.rfl) (h.imp λx h=>h.imp λy g=>?_);obtain⟨ds,i,d,e1,s,j,hq⟩:=g;subst e1 s;intro F σ H z w R m o u k;obtain⟨a,xs,rfl,r,t⟩:=o.tup_inv;cases u.int_inv;obtain⟨v,n,av⟩:=t.atI j;exact⟨a,xs,i,v,rfl,rfl,SqT.of (zi r).2,n,k d v H hq m.tp Kz.refl av⟩
def EvO (X:Cx)(α:Ev)(e:Option Expr)(Q:Option Int->Prop):Prop:=∀(F:Fr) (σ:St) (H:Hp) (R:Option Int->Hp->Prop),M F α σ H->(∀i H',Q i->zE F H'->Kz F H H'->R i H')->∃t,PO X e t/\t σ H R
def zL1 (X:Cx)(e:Option Expr):TO:=λσ H Q=>∃t,PO X e t/\t σ H Q
theorem tM {e:Option Expr}:PO X e (zL1 X e):=λpins s σ H Q I d=>by obtain⟨t,p,q⟩:=d;exact p pins s σ H Q I q
theorem ze3 {Q:Option Int->Prop}(q:Q none):EvO X α none Q:=λF σ H R m k=>⟨_,jW,k _ H q m.tp Kz.refl⟩
theorem zb9 {Q:Option Int->Prop}(h:EvD X α a λx=>∃i,x=.int i/\Q (some i)):EvO X α (some a) Q:=λF σ H R m k=>by
 refine⟨_,jL zf,?_⟩;refine h F σ H _ m λx j H1 f t1 g d=>?_;obtain⟨i,rfl,q⟩:=f;cases d.int_inv;exact⟨i,rfl,k _ H1 q t1 g⟩
theorem M.lay {F:Fr}{σ:St}{H:Hp}{l:Addr}{xs:List V}{ds:List PyData}(m:M F α σ H)(d:H l=none)(h:AVs (Gz F α σ H) xs ds):zE F (upd H l (.lst xs))/\Kz F H (upd H l (.lst xs))/\yO F α σ H (.ref l) (upd H l (.lst xs)) ds:=by
 refine⟨m.tp.same (zH d),Kz.of_same (zH d),l,xs,rfl,d,zm,h.same (zr λa o ha e=>?_)⟩;have:=zo e d;exact⟨⟨ha,this⟩,by rw[zj this];exact e⟩
theorem ni {lo hi:Option Expr}{Q:List PyData->Prop}(h:EvD X α a λx=>EvO X α lo λl=>EvO X α hi λu=>∃ds,x=.list ds/\Q (cutD ds l u)):EvL X α (.Subscript a (.Slice lo hi none p) pos) Q:=λF σ H R m k=>by
 refine⟨_,sX jz zf tM tM,?_⟩;refine h F σ H _ m λx J H1 w t1 r t=>?_;have m1:=m.kz r t1;refine w F σ H1 _ m1 λl B C D j=>?_;have m2:=m1.kz j D;refine C F σ B _ m2 λu I E t3 g=>?_;have m3:=m2.kz g t3;obtain⟨ds,rfl,q⟩:=E;obtain⟨a,xs,rfl,v,G⟩:=(t.same ((j.gz m1.tp).trans (g.gz m2.tp))).lst_inv;refine⟨a,xs,rfl,SqL.of (zi v).2,λp y=>?_⟩;obtain⟨g1,g2,g3⟩:=m3.lay y (G.cut l u);have n:=(r.trans j).trans g;obtain⟨f,i,e1,d,s,A⟩:=g3;refine k _ _ _ q g1 (n.trans g2) ⟨f,i,e1,?_,s,A⟩;cases z:H f with
 |none=>rfl
 |some o=>rw[n f o z (m.tp.nt (ow0 (m3.fresh d)))]at d;cases d
theorem yO.back {F:Fr}{σ:St}{H H1 H':Hp}{v:V}{ds:List PyData}(m:M F α σ H)(k:Kz F H H1)(t1:zE F H1)(h:yO F α σ H1 v H' ds):yO F α σ H v H' ds:=by
 obtain⟨g,d,e1,f,j,i⟩:=h;refine⟨g,d,e1,?_,j,i⟩;cases z:H g with
 |none=>rfl
 |some o=>rw[k g o z (m.tp.nt (ow0 ((m.kz k t1).fresh f)))]at f;cases f
theorem zu {Q:List A->Prop}(q:Q []):EvA X α [] Q:=λF σ H R m k=>⟨_,yh,k _ _ H q m.tp Kz.refl .nil⟩
theorem zl {Q:List A->Prop}(h:EvD X α e λd=>EvA X α es λas=>Q (.dat d::as))(i:starEach (e::es) X.env=(false,eval e X.env)::starEach es X.env:=by rfl):EvA X α (e::es) Q:=λF σ H R m k=>by
 refine⟨_,zA zf yR i,?_⟩;refine h F σ H _ m λd v H1 s t1 g r=>?_;have m1:=m.kz g t1;exact s F σ H1 _ m1 λas vs j l n f o=>k _ _ j l n (g.trans f) (.cons (r.same (f.gz m1.tp)) o)
theorem xV {Q:List A->Prop}(i:Nat){x:Str}(hi:α[i]?=some (some .tape))(h:EvA X α es λas=>Q (.tape::as))(v:X.N[i]?=some x:=by rfl)(l:Vis X.env.scope x:=by first|exact Or.inl rfl|exact Or.inr (Or.inl rfl)|exact Or.inr (Or.inr rfl))
  (hd:(x == ("__debug__":Str))=false:=by decide) (d:(x == ("__classdict__":Str))=false:=by decide) (f:starEach (.Name x pos::es) X.env=(false,eval (.Name x pos) X.env)::starEach es X.env:=by rfl):EvA X α (.Name x pos::es) Q:=λF σ H R m k=>by
 obtain⟨t,b,c,r,u⟩:=m.tvar i hi;refine⟨_,zA (yw v l hd d) yR f,.ref t,u,?_⟩;exact h F σ H _ m λas vs g j o n s=>k _ _ g j o n (.cons ⟨t,b,c,r,rfl⟩ s)
def datas :List A->Option (List PyData)
 |[]=>some []
 |.dat d::r=>(datas r).map (d::·)
 |_::_=>none
theorem yf.datas {F:Fr}{G:Hp}{vs:List V}{as:List A}{ds:List PyData}(h:yf F G vs as)(e:L2.datas as=some ds):AVs G vs ds:=by
 induction h generalizing ds with
 |nil=>cases e;exact .nil
 |@cons _ _ a as h _ ih=>
  cases a with
  |dat d=>
   obtain⟨es,e1,rfl⟩:=zQ0.mp e;exact .cons h (ih e1)
  |tape=>cases e
  |_=>exact h.elim
theorem vF {n:Nat}(h:EvA X α es λas=>∃ds,datas as=some ds/\ds.length<=1000/\Q (.tuple ds)):EvD X α (.Tuple es n pos) Q:=λF σ H R m k=>by
 refine⟨_,fM yR,?_⟩;refine h F σ H _ m λas vs H1 j t1 f i=>?_;obtain⟨ds,e,g,q⟩:=j;have r:=i.datas e;have m1:=m.kz f t1;refine⟨by rw[r.length];exact zR4 (yk g),λp d=>?_⟩;refine k _ _ _ q (t1.same (zH d)) (f.trans (Kz.of_same (zH d))) (.tup (xs:=vs) (zF (m1.fresh d) zm) (r.same (zr λa o ha e=>⟨ha,by rw[zj (zo e d)];exact e⟩)))
theorem xQ {Q:List PyData->Prop}(h:EvA X α es λas=>∃ds,datas as=some ds/\ds.length<=1000/\Q ds):EvL X α (.List es pos) Q:=λF σ H R m k=>by
 refine⟨_,cE yR,?_⟩;refine h F σ H _ m λas vs H1 i t1 d g=>?_;obtain⟨ds,e,f,q⟩:=i;have r:=g.datas e;have m1:=m.kz d t1;refine⟨by rw[r.length];exact zR4 (yk f),λp j=>?_⟩;obtain⟨g1,g2,g3⟩:=m1.lay j r;exact k _ _ _ q g1 (d.trans g2) (g3.back m d t1)
theorem yA {Q:List PyData->Prop}(h:EvD X α a λx=>EvD X α b λy=>∃ds es,x=.list ds/\y=.list es/\ds.length+es.length<=1000/\Q (ds++es)):EvL X α (.BinOp a .Add b pos) Q:=λF σ H R m k=>by
 refine⟨_,yW bE zf zf,?_⟩;refine h F σ H _ m λx A H1 s t1 f r=>?_;have m1:=m.kz f t1;refine s F σ H1 _ m1 λy w z u g d v=>?_;have m2:=m1.kz d g;obtain⟨ds,es,rfl,rfl,n,q⟩:=u;obtain⟨a,xs,rfl,o,i⟩:=(r.same (d.gz m1.tp)).lst_inv;obtain⟨b,ys,rfl,l,j⟩:=v.lst_inv;refine⟨a,b,xs,ys,rfl,rfl,(zi o).2,(zi l).2,by rw[i.length,j.length];exact zR4 (yk n),λp t=>?_⟩;obtain⟨g1,g2,g3⟩:=m2.lay t (i.append j);exact k _ _ _ q g1 ((f.trans d).trans g2) (g3.back m (f.trans d) g)
theorem uf {id:String}{x:Str}{r:List V->Hp->VK->Prop}(u:xl X (.builtin id) r)(hg:Gl X x)(hm:X.mg x=none)(j:bootBuiltins x=some (.builtin id))
  (h:EvA X α (e::es) λas=>∀(F:Fr) (σ:St) (H:Hp) (vs:List V) (R:VK),M F α σ H->yf F (Gz F α σ H) vs as->(∀d v H',Q d->zE F H'->Kz F H H'->AV (Gz F α σ H') v d->R v H')->r vs H R)
  (hn:x≠"__name__":=by decide) (f:(x == ("__debug__":Str))=false:=by decide) (he:starEach (e::es) X.env=(false,eval e X.env)::starEach es X.env:=by rfl) (hpl:(backTo pos (starEach es X.env)).any (·.1)=false:=by rfl):
  EvD X α (.Call (.Name x p) (e::es) [] pos) Q:=λF σ H R m k=>by
 refine⟨_,vX u hg hm j yR hn f he hpl,?_⟩;refine h F σ H _ m λas vs H1 t t1 g s=>?_;exact t F σ H1 vs R (m.kz g t1) s λd v H' i n l o=>k d v H' i n (g.trans l) o
end
section
variable {X:Cx}{α:Ev}{e a b c:Expr}{es:List Expr}{pos p q:Pos}{Q:PyData->Prop}
theorem yf.one {F:Fr}{G:Hp}{vs:List V}{d:PyData}(h:yf F G vs [.dat d]):∃v,vs=[v]/\AV G v d:=by
 cases h with|cons h r=>cases r;exact⟨_,rfl,h⟩
theorem yf.two {F:Fr}{G:Hp}{vs:List V}{d e:PyData}(h:yf F G vs [.dat d,.dat e]):∃v u,vs=[v,u]/\AV G v d/\AV G u e:=by
 cases h with|cons h r=>obtain⟨u,rfl,f⟩:=r.one;exact⟨_,u,rfl,h,f⟩
def zK8 :PyData->Option Int
 |.list ds=>some ds.length
 |.tuple ds=>some ds.length
 |_=>none
theorem wF (hg:Gl X "len")(hm:X.mg "len"=none)(h:EvD X α e λx=>∃n,zK8 x=some n/\Q (.int n))(he:starEach [e] X.env=(false,eval e X.env)::starEach [] X.env:=by rfl):
  EvD X α (.Call (.Name "len" p) [e] [] pos) Q:=by
 refine uf pM hg hm PySem.boot_len (zl (h.imp λx d=>?_) he) (he:=he);obtain⟨n,e1,q⟩:=d;refine zu ?_;intro F σ H vs R m i k;obtain⟨v,rfl,av⟩:=i.one;cases av with
 |lst f g=>cases e1;rw[<-g.length]at q;exact⟨_,_,rfl,.inl (SqL.of (zi f).2),k _ _ H q m.tp Kz.refl (.int _)⟩
 |tup f g=>cases e1;rw[<-g.length]at q;exact⟨_,_,rfl,.inr (SqT.of (zi f).2),k _ _ H q m.tp Kz.refl (.int _)⟩
 |_=>cases e1
theorem zx1 (o:X.calm=true)(hg:Gl X "max")(hm:X.mg "max"=none)(h:EvD X α a λx=>EvD X α b λy=>∃i j,x=.int i/\y=.int j/\Q (.int (if j > i then j else i)))
  (he:starEach [a,b] X.env=(false,eval a X.env)::starEach [b] X.env:=by rfl) (d:starEach [b] X.env=(false,eval b X.env)::starEach [] X.env:=by rfl) (hpl:(backTo pos (starEach [b] X.env)).any (·.1)=false:=by rfl):
  EvD X α (.Call (.Name "max" p) [a,b] [] pos) Q:=by
 refine uf (fb o) hg hm boot_max (zl (h.imp λx h=>zl (h.imp λy f=>?_) d) he) (he:=he) (hpl:=hpl);obtain⟨i,j,e1,n,q⟩:=f;refine zu ?_;intro F σ H vs R m l k;subst e1 n;obtain⟨v,u,rfl,av,g⟩:=l.two;cases av.int_inv;cases g.int_inv;exact⟨i,j,rfl,k _ _ H q m.tp Kz.refl (.int _)⟩
theorem zy6 (o:X.calm=true)(hg:Gl X "min")(hm:X.mg "min"=none)(h:EvD X α a λx=>EvD X α b λy=>∃i j,x=.int i/\y=.int j/\Q (.int (if j<i then j else i)))
  (he:starEach [a,b] X.env=(false,eval a X.env)::starEach [b] X.env:=by rfl) (d:starEach [b] X.env=(false,eval b X.env)::starEach [] X.env:=by rfl) (hpl:(backTo pos (starEach [b] X.env)).any (·.1)=false:=by rfl):
  EvD X α (.Call (.Name "min" p) [a,b] [] pos) Q:=by
 refine uf (fh o) hg hm boot_min (zl (h.imp λx h=>zl (h.imp λy f=>?_) d) he) (he:=he) (hpl:=hpl);obtain⟨i,j,e1,n,q⟩:=f;refine zu ?_;intro F σ H vs R m l k;subst e1 n;obtain⟨v,u,rfl,av,g⟩:=l.two;cases av.int_inv;cases g.int_inv;exact⟨i,j,rfl,k _ _ H q m.tp Kz.refl (.int _)⟩
theorem sP {T:String}{x:Str}{p1:Pos}(hg:Gl X "isinstance")(hm:X.mg "isinstance"=none)(g:Gl X x)(f:X.mg x=none)(l:bootBuiltins x=some (.type T))
  (h:EvD X α a λx=>∃k,x.hasDict=false/\dF T x=some k/\Q (.bool k)) (d:x≠"__name__":=by decide) (hdx:(x == ("__debug__":Str))=false:=by decide)
  (he:starEach [a,.Name x p1] X.env=(false,eval a X.env)::starEach [.Name x p1] X.env:=by rfl) (i:starEach [.Name x p1] X.env=(false,eval (.Name x p1) X.env)::starEach [] X.env:=by rfl) (hpl:(backTo pos (starEach [.Name x p1] X.env)).any (·.1)=false:=by rfl):
  EvD X α (.Call (.Name "isinstance" p) [a,.Name x p1] [] pos) Q:=λF σ H R m k=>by
 refine⟨_,vX iR hg hm boot_isinstance (zA zf (zA (zb6 g f l (show RelV (.ty T) (.type T)from rfl) d hdx) yh i) he) (he:=he) (hpl:=hpl),?_⟩;refine h F σ H _ m λx o H1 n t1 r j=>?_;obtain⟨b,hd,e,q⟩:=n;exact⟨o,T,x,b,rfl,(j.dv hd).same wG,e,k _ _ H1 q t1 r (.bl b)⟩
def wg :PyData->Option (List PyData)
 |.list ds=>some ds
 |.tuple ds=>some ds
 |_=>none
theorem oj {Q:List PyData->Prop}(hg:Gl X "list")(hm:X.mg "list"=none)(h:EvD X α e λx=>∃ds,wg x=some ds/\Q ds)(he:starEach [e] X.env=(false,eval e X.env)::starEach [] X.env:=by rfl):
  EvL X α (.Call (.Name "list" p) [e] [] pos) Q:=λF σ H R m k=>by
 refine⟨_,wX pV hg hm boot_list (zA zf yh he) (he:=he),?_⟩;refine h F σ H _ m λx o H1 n t1 g j=>?_;obtain⟨ds,e1,q⟩:=n;have m1:=m.kz g t1;have fin:∀{xs:List V},AVs (Gz F α σ H1) xs ds->∀l,H1 l=none->R (.ref l) (upd H1 l (.lst xs)):=λ{xs} d l i=>by
  obtain⟨g1,g2,g3⟩:=m1.lay i d;exact k _ _ _ q g1 (g.trans g2) (g3.back m g t1)
 cases j with
 |lst f d=>cases e1;exact⟨_,_,rfl,.inl (SqL.of (zi f).2),fin d⟩
 |tup f d=>cases e1;exact⟨_,_,rfl,.inr (SqT.of (zi f).2),fin d⟩
 |_=>cases e1
section
variable {k:Nat}{f:Addr}{fd:FuncData}{ps:List Str}{φ:List A->(A->Prop)->Prop}{x:Str}
theorem xW {F:Fr}{σ:St}{H:Hp}{vs:List V}{as:List A}{g:A->Prop}{R:VK}(m:M F α σ H)(h:yf F (Gz F α σ H) vs as)(d:φ as g)
  (i:∀a v H',g a->wy ⟨H,Ow F α σ,F.tp⟩ v H' a->R v H') {E:XK}:spA φ (vs++[]) H R E:=by
 refine⟨⟨H,Ow F α σ,F.tp⟩,as,g,rfl,?_,?_,?_,d,i⟩
 ·exact m.tp.to rfl λ_ z=>.inl z
 ·exact λy z=>m.owEx z
 ·rw[zU0];exact yf.to (F:=F) (F':=⟨H,Ow F α σ,F.tp⟩) (λ_ _ e=>e) rfl h
theorem wy.back {F:Fr}{σ:St}{H H':Hp}{v:V}{a:A}(m:M F α σ H)(h:wy ⟨H,Ow F α σ,F.tp⟩ v H' a):zE F H'/\Kz F H H'/\AV (Gz F α σ H') v a.d:=by
 obtain⟨t,kz,r⟩:=h;refine⟨m.tp.re t rfl,kz,?_⟩;cases a with
 |dat d=>exact r
 |ow c=>
  obtain⟨l,xs,ds,rfl,rfl,s,g,i,u⟩:=r;exact .lst (zF g i) (u.same (zr λa o h e=>⟨h.1,e⟩))
 |deep d S=>
  obtain⟨s,g⟩:=r;refine s.same λx o e=>?_;rcases bt e with⟨w,j⟩|⟨_,j⟩
  ·exact zF (g x w).1 j
  ·exact j
 |tape=>exact r.elim
 |«at» _=>exact r.elim
 |exc _ _=>exact r.elim
 |pin _ _ _=>exact r.elim
 |nst l ls dss=>
  obtain⟨rfl,g,i,u,n⟩:=r;exact .lst (zF (n l zO1).1 g) (i.avs (zr λa o h e=>⟨h.1,e⟩) λa ha=>(n a (zN7 _ ha)).1)
theorem zd3 (G:yK X.prog X.w X.K X.mg X.base CX0 k f fd ps (spA φ))(hr:zN k X.A)(hg:Gl X x)(hm:X.mg x=some (.ref f))(hk:PySem.W.keepIn X.K (.ref f)=true)(hb:Binds X.K fd ps [])
  (h:EvA X α (e::es) λas=>φ as λa=>Q a.d) (g:(x == ("__debug__":Str))=false:=by decide) (he:starEach (e::es) X.env=(false,eval e X.env)::starEach es X.env:=by rfl) (hpl:(backTo pos (starEach es X.env)).any (·.1)=false:=by rfl):
  EvD X α (.Call (.Name x p) (e::es) [] pos) Q:=λF σ H R m j=>by
 refine⟨_,jo G hr hg hm hk hb .nil nF yR g he hpl,?_⟩;refine h F σ H _ m λas vs H1 o t1 i n=>?_;have m1:=m.kz i t1;refine xW m1 n o λa v H' r l=>?_;obtain⟨g1,g2,g3⟩:=l.back m1;exact j _ v H' r g1 (i.trans g2) g3
theorem zc5 {Q:List PyData->Prop}(G:yK X.prog X.w X.K X.mg X.base CX0 k f fd ps (spA φ))(hr:zN k X.A)(hg:Gl X x)(hm:X.mg x=some (.ref f))(hk:PySem.W.keepIn X.K (.ref f)=true)(hb:Binds X.K fd ps [])
  (h:EvA X α (e::es) λas=>φ as λa=>∃ds,a=.own ds/\Q ds) (d:(x == ("__debug__":Str))=false:=by decide) (he:starEach (e::es) X.env=(false,eval e X.env)::starEach es X.env:=by rfl) (hpl:(backTo pos (starEach es X.env)).any (·.1)=false:=by rfl):
  EvL X α (.Call (.Name x p) (e::es) [] pos) Q:=λF σ H R m j=>by
 refine⟨_,jo G hr hg hm hk hb .nil nF yR d he hpl,?_⟩;refine h F σ H _ m λas vs H1 s t1 g o=>?_;have m1:=m.kz g t1;refine xW m1 o s λa v H' y i=>?_;obtain⟨ds,rfl,q⟩:=y;obtain⟨g1,g2,_⟩:=i.back m1;obtain⟨_,_,l,xs,u,rfl,t,r,B,n,z⟩:=i;cases t;exact j ds _ H' q g1 (g.trans g2) (yO.back m g t1 ⟨l,xs,rfl,r,n,z⟩)
end
theorem mW {i j:Nat}{x:Option A}(h:i≠j):(α.set i x)[j]?=α[j]?:=zT6 h
theorem zR {i:Nat}{x:Option A}{j:Nat}{y:Option A}(h:(α.set i x)[j]?=some y):(i=j/\x=y)\/(i≠j/\α[j]?=some y):=by
 by_cases d:i=j
 ·subst d;left;have f:i<α.length:=by
   have:=(zN8.mp h).1
   rwa [zS5]at this
  rw[zW1 f]at h;exact⟨rfl,zR0 h⟩
 ·right;rw[zT6 d]at h;exact⟨d,h⟩
theorem M.put {F:Fr}{σ:St}{H:Hp}{i:Nat}{b:Option A}(m:M F α σ H)(hf:∀s c x,σ[i]?=some s->b=some c->foot s c x->∃a,α[i]?=some (some a)/\foot s a x)
  (hok:∀s c,i<α.length->σ[i]?=some s->b=some c->xB (Gz F (α.set i b) σ H) F H s c) (G:∀c,b=some c->noX c:=by intro c z;cases z;trivial):zt (Gz F α σ H) (Gz F (α.set i b) σ H)/\M F (α.set i b) σ H:=by
 have y:zt (Gz F α σ H) (Gz F (α.set i b) σ H):=zr λa o h e=>⟨λz=>h (by
  rcases z with z|⟨j,c,s,e1,g,f⟩
  ·exact .inl z
  ·rcases zR e1 with⟨rfl,z⟩|⟨B,n⟩
   ·obtain⟨u,v,w⟩:=hf s c a g z f;exact .inr ⟨i,u,s,v,g,w⟩
   ·exact .inr ⟨j,c,s,n,g,f⟩),e⟩
 have old:∀{j:Nat} {c:A} {s:Option V} {x:Addr},(α.set i b)[j]?=some (some c)->σ[j]?=some s->foot s c x->∃a,α[j]?=some (some a)/\foot s a x:=λ{j c s x} e1 g f=>by
  rcases zR e1 with⟨rfl,z⟩|⟨B,n⟩
  ·exact hf s c x g z f
  ·exact⟨c,n,f⟩
 refine⟨y,by rw[zS5];exact m.len,λj c s e1 g=>?_,λj k c d s t x e1 g v w f1 f2=>?_,λj r q e C c s x e1 g f=>?_,m.tp,m.keep,m.oex⟩
 ·rcases zR e1 with⟨rfl,z⟩|⟨B,n⟩
  ·refine hok s c ?_ g z;have:=(zN8.mp e1).1
   rwa [zS5]at this
  ·exact(m.ok j c s n g).stay y (λx o f e=>⟨e,(m.ft n g f).1,(m.ft n g f).2.1⟩) rfl λ_ _ _ l=>l
 ·obtain⟨u,g1,g2⟩:=old e1 v f1;obtain⟨D,g3,E⟩:=old g w f2;exact m.dj j k u D s t x g1 g3 v w g2 E
 ·obtain⟨u,g1,g2⟩:=old e1 g f;rcases zR e with⟨rfl,z⟩|⟨_,I⟩
  ·exact(G _ z).elim
  ·exact m.xd j r q I C u s x g1 g g2
theorem M.gave {F:Fr}{σ:St}{H:Hp}{i:Nat}{a:A}{s:Option V}{b:Option A}{x:Addr}(m:M F α σ H)(e1:α[i]?=some (some a))(d:σ[i]?=some s)(f:foot s a x)(hb:∀c,b=some c->¬foot s c x):¬Ow F (α.set i b) σ x:=by
 rintro(z|⟨j,c,t,l,h,g⟩)
 ·exact(m.ft e1 d f).1 z
 ·rcases zR l with⟨rfl,z⟩|⟨n,k⟩
  ·rw[d]at h;cases h;exact hb c z g
  ·exact n (m.dj i j a c s t x e1 k d h f g)
theorem zr7 {F:Fr}{σ:St}{H:Hp}{i:Nat}{b:A}(hb:∀s x,¬foot s b x):zt (Gz F α σ H) (Gz F (α.set i (some b)) σ H):=zr λa o h e=>⟨λz=>h (by
 rcases z with z|⟨j,c,s,e1,g,f⟩
 ·exact .inl z
 ·rcases zR e1 with⟨rfl,z⟩|⟨k,d⟩
  ·cases z;exact(hb _ _ f).elim
  ·exact .inr ⟨j,c,s,d,g,f⟩),e⟩
theorem M.frz {F:Fr}{σ:St}{H:Hp}{i:Nat}{ds:List PyData}(m:M F α σ H)(hi:α[i]?=some (some (.own ds))):M F (α.set i (some (.dat (.list ds)))) σ H:=
 (m.put (b:=some (.dat (.list ds))) (λs c' x _ z f=>by cases z;exact f.elim) λs c' _ g z=>by
  cases z;obtain⟨l,o,d,j,h,n,k⟩:=m.owc i _ hi;rw[d]at g;cases g;exact⟨.ref l,rfl,(h.same (zr7 (b:=.dat (.list ds)) λ_ _ f=>f)).av (zF (m.gave hi d rfl λc z=>by cases z;exact id) j)⟩).2
theorem bq {F:Fr}{σ:St}{H H':Hp}{i:Nat}{a:A}{b:Option A}(m:M F α σ H)(k:Kz F H H')(hi:α[i]?=some (some a))(x:Addr)(o:HO)(r:¬Ob o)(h:Gz F (α.set i b) σ H' x=some o):Gz F α σ H' x=some o:=by
 obtain⟨g,d⟩:=zi h;refine zF ?_ d;rintro(z|⟨j,c,s,e1,l,f⟩)
 ·exact g (.inl z)
 ·by_cases n:i=j
  ·subst n;obtain⟨g1,g2,o',g3,t⟩:=m.ft e1 l f;rw[k _ _ g3 (m.tp.nt g1)]at d;cases d;exact r t
  ·exact g (.inr ⟨j,c,s,by rw[mW n];exact e1,l,f⟩)
theorem mQ {Q:List PyData->Prop}{i:Nat}{a:A}{b:Option A}(hi:α[i]?=some (some a))(hm:∀F σ H,M F α σ H->M F (α.set i b) σ H)(h:EvL X (α.set i b) e λd=>noLs d=true/\Q d):EvL X α e Q:=λF σ H R m k=>
 h F σ H R (hm F σ H m) λd v H' q t kz r=>by
  obtain⟨l,xs,n,o,g,u⟩:=r;refine k d v H' q.2 t kz ⟨l,xs,n,o,g,u.noL (λa ys hno z=>?_) q.1⟩;obtain⟨f,w⟩:=zi z;obtain⟨s,j⟩:=zi (bq m kz hi a ys hno (zF f.1 w));exact zF ⟨s,f.2⟩ j
theorem vj (i:Nat){ds:List PyData}(hi:α[i]?=some (some (.own ds)))(h:EvD X (α.set i (some (.dat (.list ds)))) e λd=>noL d=true/\Q d):EvD X α e Q:=λF σ H R m k=>
 h F σ H R (m.frz hi) λd v H' q t kz r=>k d v H' q.2 t kz (r.noL (bq m kz hi) q.1)
theorem vU {Q:Bool->Prop}(i:Nat){ds:List PyData}(hi:α[i]?=some (some (.own ds)))(h:EvT X (α.set i (some (.dat (.list ds)))) e Q):EvT X α e Q:=λF σ H R m k=>h F σ H R (m.frz hi) k
theorem za1 {Q:List PyData->Prop}(i:Nat){ds:List PyData}(hi:α[i]?=some (some (.own ds)))(h:EvL X (α.set i (some (.dat (.list ds)))) e λd=>noLs d=true/\Q d):EvL X α e Q:=mQ hi (λ_ _ _ m=>m.frz hi) h
def ItW (p:Addr->Prop)(J:It)(ds:List PyData)(G:Hp):Prop:=∀(i:Nat) (f:Hp) (q:Addr->Prop),zt G (sub q f)->
 (∀d,ds[i]?=some d->J.go i f/\∀x g,J.yld i f x g->zt f g/\((∀a o,g a=some o->f a=none->q a)->AV (sub q g) x d))/\(ds.length<=i->J.stop i f)
def za7 (X:Cx)(tg e:Expr):TI:=λσ H R=>∃t,PI X tg e t/\t σ H R
theorem tQ {tg e:Expr}:PI X tg e (za7 X tg e):=λpins s σ H R I d=>by obtain⟨t,p,q⟩:=d;exact p pins s σ H R I q
def EvI (X:Cx)(α:Ev)(tg e:Expr)(Q:List PyData->Prop):Prop:=∀(F:Fr) (σ:St) (H:Hp) (R:It->Hp->Prop),M F α σ H->
 (∀ds J H',Q ds->zE F H'->Kz F H H'->ItW (λx=>¬Ow F α σ x) J ds (Gz F α σ H')->R J H')->za7 X tg e σ H R
theorem yg {tg:Expr}{Q:List PyData->Prop}(h:EvD X α e λx=>∃ds,x=.list ds/\Q ds):EvI X α tg e Q:=λF σ H R m k=>by
 refine⟨_,jS zf,?_⟩;refine h F σ H _ m λx v H1 o t1 r n=>?_;obtain⟨ds,rfl,q⟩:=o;obtain⟨a,xs,rfl,f,j⟩:=n.lst_inv;refine⟨a,rfl,⟨xs,SqL.of (zi f).2⟩,k ds _ H1 q t1 r λi u p s=>⟨λd hd=>?_,λl=>?_⟩⟩
 ·obtain⟨x,g,av⟩:=j.get hd;have ha:=SqL.of (K:=X.K) (zi (s _ _ f)).2;refine⟨⟨xs,x,ha,g⟩,λw t y=>?_⟩;obtain⟨e,y⟩:=y;subst e;have:=y xs ha;rw[g]at this;cases this;exact⟨zt.refl _,λ_=>av.same s⟩
 ·exact⟨xs,SqL.of (zi (s _ _ f)).2,by rw[j.length];exact l⟩
theorem qF {p:Addr->Prop}{lo:Int}{n:Nat}{G:Hp}:ItW p (Itr lo n) ((zp lo n).map .int) G:=λi h q s=>⟨λd hd=>by
  rw[zO8,zQ0]at hd;obtain⟨z,f,rfl⟩:=hd;have hi:i<n:=by
   have:=(zN8.mp f).1
   rwa [zb]at this
  rw[yB hi]at f;cases f;refine⟨hi,λx j y=>?_⟩;obtain⟨rfl,rfl⟩:=y;exact⟨zt.refl _,λ_=>.int _⟩,λg=>by
  rw[zN0,zb]at g;exact g⟩
theorem xH {tg:Expr}{Q:List PyData->Prop}(hg:Gl X "range")(hm:X.mg "range"=none)(h:EvD X α a λx=>∃j,x=.int j/\-(2 ^ 62)<=j/\j<2 ^ 62/\Q ((zp 0 j.toNat).map .int))(d:starEach [a] X.env=[(false,eval a X.env)]:=by rfl):
  EvI X α tg (.Call (.Name "range" p) [a] [] pos) Q:=λF σ H R m k=>by
 refine⟨_,iw hg hm (zA zf yh d) d,?_⟩;refine h F σ H _ m λx o H1 i t1 f g=>?_;obtain⟨j,rfl,n,l,q⟩:=i;cases g.int_inv;exact⟨j,rfl,n,l,k _ _ H1 q t1 f qF⟩
theorem uT {tg:Expr}{Q:List PyData->Prop}(hg:Gl X "range")(hm:X.mg "range"=none)(h:EvD X α a λx=>EvD X α b λy=>∃i j,x=.int i/\y=.int j/\(-(2 ^ 62)<=i/\i<2 ^ 62/\-(2 ^ 62)<=j/\j<2 ^ 62)/\Q ((zp i (j-i).toNat).map .int))
  (l:starEach [a,b] X.env=[(false,eval a X.env),(false,eval b X.env)]:=by rfl) (d:starEach [b] X.env=[(false,eval b X.env)]:=by rfl) (f:starEach [a,b] X.env=(false,eval a X.env)::starEach [b] X.env:=by rfl):
  EvI X α tg (.Call (.Name "range" p) [a,b] [] pos) Q:=λF σ H R m k=>by
 refine⟨_,iJ hg hm (zA zf (zA zf yh d) f) l d,?_⟩;refine h F σ H _ m λx A H1 w t1 g v=>?_;have m1:=m.kz g t1;refine w F σ H1 _ m1 λy z n o t s u=>?_;obtain⟨i,j,rfl,rfl,r,q⟩:=o;cases v.int_inv;cases u.int_inv;exact⟨i,j,rfl,r,k _ _ n q t (g.trans s) qF⟩
end
inductive Pat where
 |one (i:Nat)
 |many (is:List Nat)
 |nest (i:Nat) (is:List Nat)
def xE :List Nat->List PyData->Ev->Option Ev
 |[],[],α=>some α
 |i::is,d::ds,α=>xE is ds (α.set i (some (.dat d)))
 |_,_,_=>none
def Pat.bind :Pat->PyData->Ev->Option Ev
 |.one i,d,α=>some (α.set i (some (.dat d)))
 |.many is,.tuple ds,α=>xE is ds α
 |.nest i is,.tuple [d,.tuple ds],α=>xE is ds (α.set i (some (.dat d)))
 |_,_,_=>none
def gIs :List Nat->TGs
 |[]=>aA
 |i::is=>qQ (rJ i) (gIs is)
def qh (K:PySem.W.Frag):Pat->TG
 |.one i=>rJ i
 |.many is=>cR K is.length (gIs is)
 |.nest i is=>cR K 2 (qQ (rJ i) (qQ (cR K is.length (gIs is)) aA))
def Pat.slots :Pat->List Nat
 |.one i=>[i]
 |.many is=>is
 |.nest i is=>i::is
def isFree (α:Ev)(i:Nat):Bool:=match α[i]? with
 |some none=>true
 |_=>false
def Pat.free (p:Pat)(α:Ev):Bool:=p.slots.all (isFree α)
section
variable {X:Cx}{α α':Ev}{F:Fr}{σ:St}{H:Hp}
theorem M.store {i:Nat}{v:V}{b:A}{H':Hp}(m:M F α σ H)(t:zE F H')(k:Kz F H H')(hn:∀x,foot (some v) b x->H x=none)(hok:xB (sub (λx=>¬Ow F α σ x/\¬foot (some v) b x) H') F H' (some v) b)(O:noX b:=by trivial):M F (α.set i (some b)) (σ.set i (some v)) H':=by
 have P:=m.kz k t;have D:∀{j:Nat} {c:A} {s:Option V},(α.set i (some b))[j]?=some (some c)->(σ.set i (some v))[j]?=some s->(i=j/\c=b/\s=some v)\/(i≠j/\α[j]?=some (some c)/\σ[j]?=some s):=λ{j c s} e1 n=>by
  rcases zR e1 with⟨rfl,z⟩|⟨K,G⟩
  ·cases z;have L:i<σ.length:=by
    have:=(zN8.mp n).1
    rwa [zS5]at this
   rw[zW1 L]at n;cases n;exact .inl ⟨rfl,rfl,rfl⟩
  ·rw[zT6 K]at n;exact .inr ⟨K,G,n⟩
 have ow:∀{y:Addr},Ow F (α.set i (some b)) (σ.set i (some v)) y->Ow F α σ y\/foot (some v) b y:=λ{y} h=>by
  rcases h with z|⟨j,c,s,e1,n,f⟩
  ·exact .inl (.inl z)
  ·rcases D e1 n with⟨_,rfl,rfl⟩|⟨_,g1,g2⟩
   ·exact .inr f
   ·exact .inl (.inr ⟨j,c,s,g1,g2,f⟩)
 have g1:zt (sub (λx=>¬Ow F α σ x/\¬foot (some v) b x) H') (Gz F (α.set i (some b)) (σ.set i (some v)) H'):=zr λa o h e=>⟨λz=>(ow z).elim h.1 h.2,e⟩;have Q:zt (Gz F α σ H) (sub (λx=>¬Ow F α σ x/\¬foot (some v) b x) H'):=zr λa o h e=>⟨⟨h,λz=>by rw[hn a z]at e;cases e⟩,k a o e (m.tp.nt (ow0 h))⟩;refine⟨by rw[zS5,zS5];exact m.len,λj c s e1 n=>?_,λj E c d s s' x e1 n N J f1 f2=>?_,λj r q e E c s x e1 n f=>?_,t,m.keep.trans k,P.oex⟩
 ·rcases D e1 n with⟨rfl,rfl,rfl⟩|⟨_,p,u⟩
  ·exact hok.stay g1 (λx o f e=>by
    obtain⟨B,C,_⟩:=og hok f;exact⟨e,B,C⟩) rfl λ_ _ _ l=>l
  ·exact(m.ok j c s p u).stay (Q.trans g1) (λx o f e=>by
    obtain⟨B,C,_⟩:=m.ft p u f;exact⟨k x o e (m.tp.nt B),B,C⟩) rfl λ_ _ _ l=>l.kz k t
 ·have nn:∀{j:Nat} {c:A} {s:Option V},α[j]?=some (some c)->σ[j]?=some s->foot s c x->¬foot (some v) b x:=λ{j c s} p u f g=>by
   obtain⟨_,_,o,w,_⟩:=m.ft p u f;rw[hn x g]at w;cases w
  rcases D e1 N with⟨rfl,rfl,rfl⟩|⟨_,p,u⟩
  ·rcases D n J with⟨rfl,_⟩|⟨_,B,C⟩
   ·rfl
   ·exact absurd f1 (nn B C f2)
  ·rcases D n J with⟨rfl,rfl,rfl⟩|⟨_,B,C⟩
   ·exact absurd f2 (nn p u f1)
   ·exact m.dj j E c d s s' x p B u C f1 f2
 ·rcases zR e with⟨rfl,z⟩|⟨_,I⟩
  ·cases z;exact O.elim
  ·rcases D e1 n with⟨rfl,rfl,rfl⟩|⟨_,p,u⟩
   ·exact(m.lnk I).none (hn x f)
   ·exact m.xd j r q I E c s x p u f
theorem M.set {i:Nat}{v:V}{d:PyData}(m:M F α σ H)(av:AV (Gz F α σ H) v d):M F (α.set i (some (.dat d))) (σ.set i (some v)) H:=
 m.store m.tp Kz.refl (λx z=>z.elim) ⟨v,rfl,av.same (zr λa o h e=>⟨⟨h,λz=>z⟩,e⟩)⟩
theorem M.setC {i:Nat}{v:V}{c:PyData}{H':Hp}(m:M F α σ H)(t:zE F H')(k:Kz F H H')(j:cM F α σ H v H' c):M F (α.set i (some (.ow c))) (σ.set i (some v)) H':=by
 obtain⟨l,o,rfl,b,g,d⟩:=j;have nl:¬Ow F α σ l:=m.fresh b;refine m.store t k (λx z=>?_) ⟨l,o,rfl,g,d.same (zr λa o h e=>⟨⟨h.1,λz=>h.2 (by cases z;rfl)⟩,e⟩),ow0 nl,m.fresh0 b⟩;have f:some (V.ref l)=some (.ref x):=z;cases f;exact b
theorem M.setOwn {i:Nat}{v:V}{ds:List PyData}{H':Hp}(m:M F α σ H)(t:zE F H')(k:Kz F H H')(a:yO F α σ H v H' ds):M F (α.set i (some (.own ds))) (σ.set i (some v)) H':=m.setC t k a.c
theorem M.wr {x:Addr}{o:HO}(m:M F α σ H)(hno:wM o)(d:F.O0 x)(g:∀t b c,F.tp=some (t,b,c)->x≠t/\x≠b/\x≠c)(h0:F.H0 x=none)(hpl:Plain H x)(A:∀(i:Nat) r q,α[i]?=some (some (.exc r q))->r.H0 x=none):M F α σ (upd H x o):=by
 have w:zt (Gz F α σ H) (Gz F α σ (upd H x o)):=zr λa u h e=>⟨h,by rw[zj (λz=>h (.inl (by rw[z];exact d)))];exact e⟩;refine⟨m.len,λj c s e1 p=>?_,m.dj,m.xd,m.tp.upd g hpl,λy u e n=>?_,λy hy=>?_⟩
 ·have:=m.ok j c s e1 p;cases c with
  |exc r q=>
   have l:Lnk r F H:=this;exact⟨l.tp,l.o,l.ok.upd (λa b c e=>g a b c (l.tp▸e)) hpl,λy u e n=>by rw[zj (zo e (A j r q e1))];exact l.k y u e n⟩
  |_=>exact this.stay w (λy u f e=>by
    obtain⟨v,B,_⟩:=m.ft e1 p f;exact⟨by rw[zj (λz=>v (by rw[z];exact d))];exact e,v,B⟩) rfl λ_ _ z=>by cases z
 ·rw[zj (zo e h0)];exact m.keep y u e n
 ·by_cases z:y=x
  ·exact⟨o,by rw[z];exact zm,hno⟩
  ·obtain⟨u,C,hn⟩:=m.oex y hy;exact⟨u,by rw[zj z];exact C,hn⟩
theorem M.forget {α0:Ev}(m:M F α σ H)(n:α0.length=α.length)(le:∀(i:Nat) a,α0[i]?=some (some a)->α[i]?=some (some a)):M F α0 σ H:=by
 have ow:∀{y:Addr},Ow F α0 σ y->Ow F α σ y:=λ{y} h=>by
  rcases h with z|⟨j,c,s,e1,b,f⟩
  ·exact .inl z
  ·exact .inr ⟨j,c,s,le _ _ e1,b,f⟩
 have k:zt (Gz F α σ H) (Gz F α0 σ H):=zr λa o h e=>⟨λz=>h (ow z),e⟩;exact⟨n.trans m.len,λj c s e1 b=>(m.ok j c s (le _ _ e1) b).stay k (λx o f e=>⟨e,(m.ft (le _ _ e1) b f).1,(m.ft (le _ _ e1) b f).2.1⟩) rfl λ_ _ _ l=>l,λj g c d s s' x e1 b=>m.dj j g c d s s' x (le _ _ e1) (le _ _ b),λj r q e g c s x e1=>m.xd j r q (le _ _ e) g c s x (le _ _ e1),m.tp,m.keep,m.oex⟩
theorem uE {H:Hp}:∀{is:List Nat}{ds:List PyData}{α α':Ev}{σ:St}{xs:List V}{R:St->Hp->Prop},xE is ds α=some α'->M F α σ H->(∀G,zt (Gz F α σ H) G->AVs G xs ds)->(∀b,M F α' b H->R b H)->gIs is xs σ H R
 |[],[],α,α',σ,xs,R,e,m,av,k=>by
  cases e;cases av _ (zt.refl _);exact⟨rfl,k σ m⟩
 |i::is,d::ds,α,α',σ,xs,R,e,m,av,k=>by
  cases h:av _ (zt.refl _)with
  |@cons x xs _ _ h1 h2=>
   refine⟨x,xs,rfl,?_⟩;have n:zt (Gz F α σ H) (Gz F (α.set i (some (.dat d))) (σ.set i (some x)) H):=zr λa o h e=>⟨λz=>h (by
    rcases z with z|⟨j,c,s,e1,l,f⟩
    ·exact .inl z
    ·rcases zR e1 with⟨_,z⟩|⟨p,g⟩
     ·cases z;exact f.elim
     ·rw[zT6 p]at l;exact .inr ⟨j,c,s,g,l,f⟩),e⟩
   exact uE (is:=is) (ds:=ds) e (m.set (i:=i) h1) (λG s=>h2.same (n.trans s)) k
 |[],_::_,_,_,_,_,_,e,_,_,_=>by cases e
 |_::_,[],_,_,_,_,_,e,_,_,_=>by cases e
theorem Pat.nest_inv {i:Nat}{is:List Nat}{d:PyData}(e:(Pat.nest i is).bind d α=some α'):∃a ds,d=.tuple [a,.tuple ds]/\xE is ds (α.set i (some (.dat a)))=some α':=by
 cases d with
 |tuple xs=>
  cases xs with
  |nil=>cases e
  |cons a r=>
   cases r with
   |nil=>cases e
   |cons b r=>
    cases r with
    |nil=>
     cases b with
     |tuple ds=>exact⟨_,_,rfl,e⟩
     |_=>cases e
    |cons _ _=>cases b<;>cases e
 |_=>cases e
theorem qz :∀{is:List Nat}{ds:List PyData}{α α':Ev},xE is ds α=some α'->ds.length=is.length:=by
 intro is
 induction is with
 |nil=>intro ds α α' h;cases ds with|nil=>rfl|cons _ _=>cases h
 |cons i is a=>intro ds α α' h;cases ds with|nil=>cases h|cons d ds=>rw[zQ2,zQ2,a h]
theorem tZ {K:PySem.W.Frag}{pat:Pat}{d:PyData}{v:V}{R:St->Hp->Prop}(e:pat.bind d α=some α')(m:M F α σ H)(av:AV (Gz F α σ H) v d)(k:∀g,M F α' g H->R g H):qh K pat v σ H R:=by
 cases pat with
 |one i=>cases e;exact k _ (m.set av)
 |many is=>
  cases d with
  |tuple ds=>
   obtain⟨a,xs,rfl,n,l⟩:=av.tup_inv;exact⟨a,xs,rfl,SqT.of (zi n).2,by rw[l.length];exact qz e,uE e m (λG s=>l.same s) k⟩
  |_=>cases e
 |nest i is=>
  obtain⟨u,ds,rfl,e⟩:=Pat.nest_inv e;obtain⟨a,xs,rfl,n,l⟩:=av.tup_inv;cases l with
  |@cons x0 r _ _ z1 z2=>
   cases z2 with
   |@cons x1 r _ _ z3 z4=>
    cases z4;have m1:=m.set (i:=i) z1;have w:zt (Gz F α σ H) (Gz F (α.set i (some (.dat u))) (σ.set i (some x0)) H):=zr λa o h e=>⟨λz=>h (by
     rcases z with z|⟨j,c,s,e1,t,f⟩
     ·exact .inl z
     ·rcases zR e1 with⟨_,z⟩|⟨y,p⟩
      ·cases z;exact f.elim
      ·rw[zT6 y]at t;exact .inr ⟨j,c,s,p,t,f⟩),e⟩
    obtain⟨b,ys,rfl,A,q⟩:=(z3.same w).tup_inv;exact⟨a,_,rfl,SqT.of (zi n).2,rfl,_,_,rfl,_,_,rfl,⟨b,ys,rfl,SqT.of (zi A).2,by rw[q.length];exact qz e,uE e m1 (λG s=>q.same s) λg x=>⟨rfl,k g x⟩⟩⟩
theorem rM :∀{is:List Nat}{ds:List PyData}{α α':Ev},xE is ds α=some α'->α'.length=α.length
 |[],[],_,_,e=>by cases e;rfl
 |i::is,d::ds,α,α',e=>by
  have:=rM (is:=is) (ds:=ds) e
  rwa [zS5]at this
 |[],_::_,_,_,e=>by cases e
 |_::_,[],_,_,e=>by cases e
theorem sO :∀{is:List Nat}{ds:List PyData}{α α':Ev}{j:Nat},xE is ds α=some α'->j∉is->α'[j]?=α[j]?
 |[],[],_,_,_,e,_=>by cases e;rfl
 |i::is,d::ds,α,α',j,e,h=>by
  rw[sO (is:=is) (ds:=ds) e λz=>h (zN7 _ z)];exact zT6 λ(z:i=j)=>h (by rw[<-z];exact zO1)
 |[],_::_,_,_,_,e,_=>by cases e
 |_::_,[],_,_,_,e,_=>by cases e
theorem sj :∀{is:List Nat}{ds:List PyData}{α α':Ev}{j:Nat}{a:A},xE is ds α=some α'->α'[j]?=some (some a)->(∀d,a≠.dat d)->α[j]?=some (some a)
 |[],[],_,_,_,_,e,h,_=>by cases e;exact h
 |i::is,d::ds,α,α',j,a,e,h,hn=>by
  rcases zR (sj (is:=is) (ds:=ds) e h hn)with⟨_,z⟩|⟨_,z⟩
  ·cases z;exact absurd rfl (hn d)
  ·exact z
 |[],_::_,_,_,_,_,e,_,_=>by cases e
 |_::_,[],_,_,_,_,e,_,_=>by cases e
theorem Pat.is_ok {pat:Pat}{d:PyData}(e:pat.bind d α=some α'):∃is ds,pat.slots=is/\xE is ds α=some α':=by
 cases pat with
 |one i=>cases e;exact⟨_,[d],rfl,rfl⟩
 |many is=>
  cases d with
  |tuple ds=>exact⟨_,ds,rfl,e⟩
  |_=>cases e
 |nest i is=>
  obtain⟨a,ds,rfl,e⟩:=Pat.nest_inv e;exact⟨_,a::ds,rfl,e⟩
theorem Pat.back {pat:Pat}{d:PyData}(e:pat.bind d α=some α')(fr:pat.free α=true)(m:M F α' σ H):M F α σ H:=by
 obtain⟨is,ds,rfl,e⟩:=Pat.is_ok e;refine m.forget (rM e).symm λj a h=>?_;by_cases b:j∈pat.slots
 ·have:=z27.mp fr j b;unfold isFree at this;rw[h]at this;cases this
 ·rw[sO e b];exact h
end
section
variable {X:Cx}{α:Ev}
def iZ (X:Cx)(α:Ev)(ifs:List Expr)(Q:Bool->Prop):Prop:=∀(F:Fr) (σ:St) (H:Hp) (R:Bool->Hp->Prop),M F α σ H->(∀b H',Q b->zE F H'->Kz F H H'->R b H')->∃t,wL X ifs t/\t σ H R
def zl8 (X:Cx)(ifs:List Expr):TT:=λσ H R=>∃t,wL X ifs t/\t σ H R
theorem jj {ifs:List Expr}:wL X ifs (zl8 X ifs):=λpins s σ H Q I a=>by obtain⟨t,p,q⟩:=a;exact p pins s σ H Q I q
theorem ku {Q:Bool->Prop}(q:Q true):iZ X α [] Q:=λF σ H R m k=>⟨_,zd9,k _ H q m.tp Kz.refl⟩
theorem sN {c:Expr}{Q:Bool->Prop}(h:EvT X α c Q):iZ X α [c] Q:=λF σ H R m k=>⟨_,za6 xh,h F σ H R m k⟩
def seen :Option A->Option A
 |some (.dat d)=>some (.dat d)
 |some .tape=>some .tape
 |_=>none
def yF (imp:List (Option Nat))(α:Ev):Ev:=imp.map λo=>o.bind λj=>(α[j]?).bind seen
theorem nY {imp:List (Option Nat)}{i:Nat}{a:A}(h:(yF imp α)[i]?=some (some a)):∃j,imp[i]?=some (some j)/\α[j]?=some (some a)/\((∃d,a=.dat d)\/a=.tape):=by
 unfold yF at h;rw[zO8,zQ0]at h;obtain⟨o,e,f⟩:=h;cases o with
 |none=>cases f
 |some j=>
  have c:(α[j]?).bind seen=some a:=f;cases q:α[j]? with
  |none=>rw[q]at c;cases c
  |some b=>
   rw[q]at c;cases b with
   |none=>cases c
   |some b=>
    cases b with
    |dat d=>cases c;exact⟨j,e,q,.inl ⟨d,rfl⟩⟩
    |tape=>cases c;exact⟨j,e,q,.inr rfl⟩
    |_=>cases c
theorem oV {imp:List (Option Nat)}{σ:St}{i j:Nat}{v:V}(a:imp[i]?=some (some j))(b:σ[j]?=some (some v)):(xM imp σ)[i]?=some (some v):=by
 unfold xM;rw[zO8,a];show some ((σ[j]?).bind id)=_;rw[b];rfl
def xf (Y:Addr->Shared->Hp->List Addr->Cx)(pat:Pat)(ifs:List Expr)(elt:Expr)(α0:Ev):List PyData->List PyData->(List PyData->Prop)->Prop
 |[],acc,Q=>Q acc
 |d::ds,acc,Q=>∃a,pat.bind d α0=some a/\∀C s2 b fp,iZ (Y C s2 b fp) a ifs λk=>if k=true then ∀C s2 b fp,EvD (Y C s2 b fp) a elt λy=>xf Y pat ifs elt α0 ds (acc++[y]) Q else xf Y pat ifs elt α0 ds acc Q
def eC (Y:Addr->Shared->Hp->List Addr->Cx)(e:Expr):TE:=λσ H Q=>∀C s2 a fp,vP (Y C s2 a fp) e σ H Q
def tsC (Y:Addr->Shared->Hp->List Addr->Cx)(ifs:List Expr):TT:=λσ H Q=>∀C s2 a fp,zl8 (Y C s2 a fp) ifs σ H Q
theorem jU {N:List Str}{imp:List (Option Nat)}{scope:Scope}{tg iter elt:Expr}{ifs:List Expr}{pat:Pat}{Q:List PyData->Prop}(G:pat.free (yF imp α)=true)
  (h:EvI X α tg iter λds=>ds.length<=1000/\xf (λC s2 A fp=>X.comp N scope C s2 A fp) pat ifs elt (yF imp α) ds [] Q)
  (F:Fr) (σ:St) (H:Hp) (R:VK) (m:M F α σ H) (k:∀ds v H',Q ds->zE F H'->Kz F H H'->yO F α σ H v H' ds->R v H'):
  ∃Y:Addr->Shared->Hp->List Addr->Cx,Y=(λC s2 A fp=>X.comp N scope C s2 A fp)/\bL (za7 X tg iter) imp (qh X.K pat) (tsC Y ifs) (eC Y elt) σ H R:=by
 refine⟨_,rfl,?_⟩;refine h F σ H _ m λds J H1 b2 t1 k1 b7 acc g=>?_;obtain⟨hl,q1⟩:=b2;have m1:=m.kz k1 t1;have b8:¬Ow F α σ acc:=m1.fresh g
 let u:Fr:=⟨H1,λx=>Ow F α σ x\/x=acc,F.tp⟩
 let Nd:Ev->Prop:=λl=>∀(j:Nat) a,l[j]?=some (some a)->(∃d,a=.dat d)\/a=.tape
 have B:Nd (yF imp α):=λj a z=>by
  obtain⟨_,_,_,n⟩:=nY z;exact n
 have owc:∀{l:Ev} {O:St} {x:Addr},Nd l->(Ow u l O x↔u.O0 x):=λ{l O x} hh=>⟨λz=>z.elim id λa8=>by
  obtain⟨j,a,s,e1,Z,f⟩:=a8;rcases hh j a e1 with⟨d,rfl⟩|rfl
  ·exact f.elim
  ·exact f.elim,.inl⟩
 have gz:∀{l a5:Ev} {D τ2:St} {H:Hp},Nd l->Nd a5->zt (Gz u l D H) (Gz u a5 τ2 H):=λh1 h2=>zr λa o h e=>⟨λz=>h ((owc h1).mpr ((owc h2).mp z)),e⟩;have b3:∀{A:Hp},zE F A->zE u A:=λt=>t.to rfl λx z=>.inl (.inl z);have V:zt H1 (upd H1 acc (.lst [])):=zH g;have b0:M u (yF imp α) (xM imp σ) (upd H1 acc (.lst [])):=by
  have g1:zt (Gz F α σ H1) (Gz u (yF imp α) (xM imp σ) (upd H1 acc (.lst []))):=λa o e=>by
   obtain⟨z1,z2⟩:=zi e;have na:a≠acc:=zo z2 g;exact zF (λz=>((owc B).mp z).elim z1 na) (by rw[zj na];exact z2)
  refine⟨by unfold yF xM;rw[zN0,zN0],λi a s e1 Z=>?_,λi j a b s t x e1 Z _ _ f=>?_,λi r q e=>(by rcases B i _ e with⟨d,w⟩|w<;>cases w),b3 (t1.same V),λx o e _=>V x o e,?_⟩
  ·obtain⟨j,w1,w2,w3⟩:=nY e1;rcases w3 with⟨d,rfl⟩|rfl
   ·obtain⟨v,g2,g3⟩:=m1.dat j d w2;rw[oV w1 g2]at Z;cases Z;exact⟨v,rfl,g3.same g1⟩
   ·obtain⟨t,b,c,g2,g3⟩:=m1.tvar j w2;rw[oV w1 g3]at Z;cases Z;exact⟨t,b,c,g2,rfl⟩
  ·rcases B i a e1 with⟨d,rfl⟩|rfl
   ·exact f.elim
   ·exact f.elim
  ·rintro x (z|z)
   ·have:∃o,H1 x=some o/\wM o:=m1.owEx z;obtain⟨o,ho,hn⟩:=this;exact⟨o,V _ _ ho,hn⟩
   ·exact⟨_,by rw[z];exact zm,xO⟩
 refine⟨λi n ys O A=>n=ds.length-i/\i<=ds.length/\∃ad:List PyData,M u (yF imp α) O A/\A acc=some (.lst ys)/\AVs (Gz u (yF imp α) O A) ys ad/\ad.length<=i/\xf (λC s2 A fp=>X.comp N scope C s2 A fp) pat ifs elt (yF imp α) (ds.drop i) ad Q,
  ⟨ds.length,by simp,zO5 _,[],b0,zm,.nil,zN5 _,q1⟩,?_⟩
 rintro i n ys O A ⟨rfl,hi,ad,m2,ha,av,W,cw⟩;have sG:zt (Gz F α σ H1) (Gz u (yF imp α) O A):=λa o e=>by
  obtain⟨z1,z2⟩:=zi e;exact m2.old a o (zF (p:=λx=>¬u.O0 x) (λz=>z.elim z1 (zo z2 g)) z2)
 obtain⟨w1,w2⟩:=b7 i A _ sG;by_cases E:i<ds.length
 ·have hd:ds[i]?=some ds[i]:=zN2 E;have a7:ds.drop i=ds[i]::ds.drop (i+1):=zR8 E;rw[a7]at cw;obtain⟨l,eb,body⟩:=cw;obtain⟨go,yl⟩:=w1 _ hd;have I:Nd l:=λj a z=>by
   obtain⟨is,b9,_,e⟩:=Pat.is_ok eb;by_cases hn:∀d,a≠.dat d
   ·exact B j a (sj e z hn)
   ·simp only[Classical.not_forall,Classical.not_not]at hn;exact .inl hn
  refine .inr ⟨go,λU T H'=>∃ad:List PyData,M u (yF imp α) T H'/\H' acc=some (.lst U)/\AVs (Gz u (yF imp α) T H') U ad/\ad.length<=i+1/\xf (λC s2 A fp=>X.comp N scope C s2 A fp) pat ifs elt (yF imp α) (ds.drop (i+1)) ad Q,
   λU T H' b6=>by obtain⟨b4,r1,r2,r3,r4,r5⟩:=b6;exact⟨ds.length-(i+1),(om0 E),rfl,E,b4,r1,r2,r3,r4,r5⟩,λx H3 y=>?_⟩
  obtain⟨L,a6⟩:=yl x H3 y;have m3:M u (yF imp α) O H3:=m2.kz (Kz.of_same L) (m2.tp.same L);have a4:=a6 λa o _ e=>m2.fresh e;refine tZ eb m3 a4 λD m4 C s2 b5 fp=>?_;refine body C s2 b5 fp u D H3 _ m4 λb H5 qb t5 k5=>?_;have m5:=m4.kz k5 t5;have a2:AVs (Gz u (yF imp α) D H5) ys ad:=av.same ((Kz.of_same L).gz m2.tp |>.trans ((gz (τ2:=D) B I).trans ((k5.gz m4.tp).trans (gz I B))));have accN:NT u acc:=⟨λt b c e=>by
   have:=(t1 t b c e).1.free g;exact⟨this.1,this.2.1⟩,uq t1.tab g⟩
  have a3:H5 acc=some (.lst ys):=k5 _ _ (L _ _ ha) accN;cases b with
  |false=>
   have a9:xf (λC s2 A fp=>X.comp N scope C s2 A fp) pat ifs elt (yF imp α) (ds.drop (i+1)) ad Q:=by simpa using qb
   exact rh ⟨ad,Pat.back eb G m5,a3,a2,(zO0 W (zP2 _ _)),a9⟩
  |true=>
   refine sQ λC s2 S fp=>?_;have qe:EvD (X.comp N scope C s2 S fp) l elt λy=>xf (λC s2 A fp=>X.comp N scope C s2 A fp) pat ifs elt (yF imp α) (ds.drop (i+1)) (ad++[y]) Q:=by
    have z:=qb;rw[if_pos rfl]at z;exact z C s2 S fp
   refine qe u D H5 _ m5 λy v H6 qy t6 k6 r6=>?_;have m6:=m5.kz k6 t6;have a0:H6 acc=some (.lst ys):=k6 _ _ a3 accN;have hlen:ys.length<=i:=by rw[av.length];exact W
   have P:u.O0 acc:=.inr rfl;have a1:∀t b c,u.tp=some (t,b,c)->acc≠t/\acc≠b/\acc≠c:=λt b c e=>(t1 t b c e).1.free g;have m7:=(Pat.back eb G m6).wr (o:=.lst (ys++[v])) xO P a1 g (qL a0) (λi r q z=>by rcases B i _ z with⟨d,w⟩|w<;>cases w);refine⟨a0,yk (by lia),ad++[y],m7,zm,?_,by simp;exact W,qy⟩;have b1:zt (Gz u (yF imp α) D H6) (Gz u (yF imp α) D (upd H6 acc (.lst (ys++[v])))):=zr λa o h e=>⟨h,by rw[zj (λz=>h (.inl (by rw[z];exact P)))];exact e⟩;exact((a2.same ((gz (τ2:=D) B I).trans ((k6.gz m5.tp).trans (gz I B)))).append (.cons (r6.same (gz I B)) .nil)).same b1
 ·have e:i=ds.length:=(zW4 hi (zV2 E));subst e;rw[z01]at cw;refine .inl ⟨w2 (zN5 _),k ad _ A cw ?_ (k1.trans m2.keep) (yO.back m k1 t1 ⟨acc,ys,rfl,g,ha,av.same (zr λa o h e=>⟨⟨λz=>h (.inl (.inl z)),λz=>h (.inl (.inr z))⟩,e⟩)⟩)⟩;exact m.tp.re m2.tp rfl
theorem ef {N:List Str}{imp:List (Option Nat)}{scope:Scope}{tg iter elt:Expr}{ifs:List Expr}{pat:Pat}{Q:List PyData->Prop}{pos:Pos}(d:X.calm=true)(S:zI X.N X.env.scope N imp scope)(b:pat.free (yF imp α)=true)
  (hg:∀C s2 a fp,PG (X.comp N scope C s2 a fp) tg (qh X.K pat))
  (h:EvI X α tg iter λds=>ds.length<=1000/\xf (λC s2 a fp=>X.comp N scope C s2 a fp) pat ifs elt (yF imp α) ds [] Q) (c:∀x,foldedSetIterable iter X.env x=pure x:=by intro _;rfl):
  EvL X α (.ListComp elt [⟨tg,iter,ifs,0⟩] scope pos) Q:=λF σ H R m k=>by
 obtain⟨Y,rfl,h⟩:=jU b h F σ H R m k;exact⟨_,zE6 d S tQ hg (λC s2 a fp pins s σ H Q I h=>jj pins s σ H Q I (h C s2 a fp)) (λC s2 a fp pins s σ H Q I h=>zf pins s σ H Q I (h C s2 a fp)) c,h⟩
section
variable {E:yo}{rest body:List Stmt}{e c tg iter:Expr}{pos p:Pos}
theorem qg.then {F:Fr}{D:Ends}(h:qg F E D):qg F {E with nx:=λa=>SvS X a rest E} {D with nx:=dE X rest D}:=
 ⟨λa b H' m q=>q F b H' D m h,h.rt,h.bk,h.ct⟩
theorem zw (q:E.nx α):SvS X α [] E:=λF σ H D m h=>⟨_,kQ,h.nx _ _ _ m q⟩
theorem SvS.imp {d:List Stmt}{b:yo}(h:SvS X α d b)(hn:∀α,b.nx α->E.nx α)(hr:∀a,b.rt a->E.rt a)(hb:∀α,b.bk α->E.bk α)(f:∀α,b.ct α->E.ct α):SvS X α d E:=λF σ H D m r=>
 h F σ H D m ⟨λα σ H m q=>r.nx α σ H m (hn _ q),λa v H m q=>r.rt a v H m (hr _ q),λα σ H m q=>r.bk α σ H m (hb _ q),λα σ H m q=>r.ct α σ H m (f _ q)⟩
theorem zY (i:Nat){x:Str}{pos':Pos}(j:X.N.Nodup)(h:EvD X α e λd=>SvS X (α.set i (some (.dat d))) rest E)(hi:X.N[i]?=some x:=by rfl)(b:Loc X.env.scope x:=by first|exact Or.inl rfl|exact Or.inr rfl)
  (a:swapsWith e (some (.Name x pos')) pos.line X.env=pure false:=by rfl) (hf:X.fn x=true\/X.env.scope.names.lookup x=some .local:=by first|exact .inl rfl|exact .inr rfl|assumption):SvS X α (.Assign [.Name x pos'] e pos::rest) E:=λF σ H D m r=>by
 refine⟨_,zy (ph j hi b zf a hf) zG,?_⟩;exact h F σ H _ m λd v H1 g t1 k f=>g F _ H1 D ((m.kz k t1).set f) r
theorem xx (i:Nat){x:Str}{pos':Pos}(j:X.N.Nodup)(h:EvL X α e λds=>SvS X (α.set i (some (.own ds))) rest E)(hi:X.N[i]?=some x:=by rfl)(b:Loc X.env.scope x:=by first|exact Or.inl rfl|exact Or.inr rfl)
  (a:swapsWith e (some (.Name x pos')) pos.line X.env=pure false:=by rfl) (hf:X.fn x=true\/X.env.scope.names.lookup x=some .local:=by first|exact .inl rfl|exact .inr rfl|assumption):SvS X α (.Assign [.Name x pos'] e pos::rest) E:=λF σ H D m r=>by
 refine⟨_,zy (ph j hi b zf a hf) zG,?_⟩;exact h F σ H _ m λd v H1 g t1 k f=>g F _ H1 D (m.setOwn t1 k f) r
theorem bS (i:Nat){x:Str}{pos' a:Pos}{N:List Str}{imp:List (Option Nat)}{scope:Scope}{elt:Expr}{ifs:List Expr}{pat:Pat}(j:X.N.Nodup)(l:X.calm=true)(S:zI X.N X.env.scope N imp scope)(b:pat.free (yF imp α)=true)
  (hg:∀C s2 d fp,PG (X.comp N scope C s2 d fp) tg (qh X.K pat))
  (h:EvI X α tg iter λds=>ds.length<=1000/\xf (λC s2 d fp=>X.comp N scope C s2 d fp) pat ifs elt (yF imp α) ds [] λds=>SvS X (α.set i (some (.own ds))) rest E)
  (hi:X.N[i]?=some x:=by rfl) (n:Loc X.env.scope x:=by first|exact Or.inl rfl|exact Or.inr rfl) (f:swapsWith (.ListComp elt [⟨tg,iter,ifs,0⟩] scope a) (some (.Name x pos')) pos.line X.env=pure true:=by rfl)
  (hf:X.fn x=true\/X.env.scope.names.lookup x=some .local:=by first|exact .inl rfl|exact .inr rfl|assumption) (g:∀x,foldedSetIterable iter X.env x=pure x:=by intro _;rfl):
  SvS X α (.Assign [.Name x pos'] (.ListComp elt [⟨tg,iter,ifs,0⟩] scope a) pos::rest) E:=λF σ H D m r=>by
 obtain⟨Y,rfl,h⟩:=jU b h F σ H (λv H'=>dE X rest D (σ.set i (some v)) H') m λds v H' q t k o=>q F _ H' D (m.setOwn t k o) r;exact⟨_,zy (bw l S tQ hg (λC s2 d fp pins s σ H Q I h=>jj pins s σ H Q I (h C s2 d fp)) (λC s2 d fp pins s σ H Q I h=>zf pins s σ H Q I (h C s2 d fp)) j hi n f hf g) zG,h⟩
theorem wy.dat {F:Fr}{σ:St}{H:Hp}{v:V}{d:PyData}(m:M F α σ H)(r:AV (Gz F α σ H) v d):wy F v H (.dat d):=
 ⟨m.tp,m.keep,r.same (zr λa o h e=>⟨ow0 h,e⟩)⟩
theorem yI (h:EvD X α e λd=>E.rt (.dat d)):SvS X α (.Return (some e) pos::rest) E:=λF σ H D m r=>by
 refine⟨_,zy (sH zf) zG,?_⟩;exact h F σ H _ m λd v H1 b t1 f a=>r.rt _ _ _ (wy.dat (m.kz f t1) a) b
theorem vd (h:EvL X α e λds=>E.rt (.own ds)):SvS X α (.Return (some e) pos::rest) E:=λF σ H D m r=>by
 refine⟨_,zy (sH zf) zG,?_⟩;refine h F σ H _ m λd v H1 j t1 n i=>r.rt _ _ _ ?_ j;obtain⟨l,xs,g,b,f,k⟩:=i;exact⟨t1,m.keep.trans n,l,xs,_,g,rfl,m.fresh0 b,ow0 (m.fresh b),f,k.same (zr λa o h e=>⟨⟨ow0 h.1,h.2⟩,e⟩)⟩
theorem xX (i:Nat){x:Str}{ds:List PyData}(hi:α[i]?=some (some (.own ds)))(q:E.rt (.own ds))(n:X.N[i]?=some x:=by rfl)(g:Vis X.env.scope x:=by first|exact Or.inl rfl|exact Or.inr (Or.inl rfl)|exact Or.inr (Or.inr rfl))
  (hd:(x == ("__debug__":Str))=false:=by decide) (b:(x == ("__classdict__":Str))=false:=by decide):SvS X α (.Return (some (.Name x p)) pos::rest) E:=λF σ H D m r=>by
 obtain⟨l,xs,d,k,f,s,j⟩:=m.own i ds hi;refine⟨_,zy (sH (yw n g hd b)) zG,.ref l,d,r.rt (.own ds) _ _ ⟨m.tp,m.keep,l,xs,_,rfl,rfl,j,s,k,f.same (zr λa o h e=>⟨⟨ow0 h,λz=>h (by rw[z];exact .inr ⟨i,_,_,hi,d,rfl⟩)⟩,e⟩)⟩ q⟩
theorem xu {a b:List Stmt}(h:EvT X α c λk=>SvS X α (if k=true then a else b) {E with nx:=λd=>SvS X d rest E}):SvS X α (.If c a b pos::rest) E:=λF σ H D m r=>by
 refine⟨_,zy (zi9 xh zG zG) zG,?_⟩;refine h F σ H _ m λk H1 f t1 g=>?_;cases k with
 |true=>exact sQ ((by simpa using f:SvS X α a _) F σ H1 _ (m.kz g t1) r.then)
 |false=>exact rh ((by simpa using f:SvS X α b _) F σ H1 _ (m.kz g t1) r.then)
theorem uN (i:Nat){ds:List PyData}{a:List Stmt}(hi:α[i]?=some (some (.own ds)))(h:SvS X (α.set i (some (.dat (.list ds)))) a E):SvS X α a E:=λF σ H D m r=>h F σ H D (m.frz hi) r
theorem M.wrC {F:Fr}{σ:St}{H:Hp}{i:Nat}{c c':PyData}{l:Addr}{o':HO}(m:M F α σ H)(hi:α[i]?=some (some (.ow c)))(v:σ[i]?=some (some (.ref l)))(av:yT (Gz F α σ H) o' c'):
  M F (α.set i (some (.ow c'))) σ (upd H l o'):=by
 obtain⟨Y,o,P,S,N,I,O⟩:=m.owc i c hi;rw[v]at P;cases P;have B:∀{j:Nat} {a:A} {s:Option V},(α.set i (some (.ow c')))[j]?=some (some a)->σ[j]?=some s->(i=j/\a=.ow c'/\s=some (.ref l))\/(i≠j/\α[j]?=some (some a)):=λ{j a s} e1 g=>by
  rcases zR e1 with⟨rfl,z⟩|⟨C,d⟩
  ·cases z;rw[v]at g;cases g;exact .inl ⟨rfl,rfl,rfl⟩
  ·exact .inr ⟨C,d⟩
 have L:∀{y:Addr},Ow F (α.set i (some (.ow c'))) σ y->Ow F α σ y:=λ{y} h=>by
  rcases h with z|⟨j,a,s,e1,g,f⟩
  ·exact .inl z
  ·rcases B e1 g with⟨rfl,rfl,rfl⟩|⟨C,d⟩
   ·exact .inr ⟨i,_,_,hi,v,f⟩
   ·exact .inr ⟨j,a,s,d,g,f⟩
 have ol:Ow F α σ l:=.inr ⟨i,_,_,hi,v,rfl⟩;have Q:zt (Gz F α σ H) (Gz F (α.set i (some (.ow c'))) σ (upd H l o')):=zr λa o h e=>⟨λz=>h (L z),by rw[zj (λz=>h (by rw[z];exact ol))];exact e⟩;refine⟨by rw[zS5];exact m.len,λj a s e1 g=>?_,λj D a b s t x e1 g K G f1 f2=>?_,λj r q e D a s x e1 g f=>?_,m.tp.updO I (N.plain S),λy o e n=>?_,λy hy=>?_⟩
 ·rcases B e1 g with⟨rfl,rfl,rfl⟩|⟨C,d⟩
  ·exact⟨l,o',rfl,zm,av.same Q,I,O⟩
  ·refine(m.ok j a s d g).stay Q (λy u f e=>?_) rfl λr q T k=>⟨k.tp,k.o,k.ok.updO (λz=>I (k.o _ z)) (N.plain S),λy u e n=>?_⟩
   ·obtain⟨W,U,_⟩:=m.ft d g f;refine⟨?_,W,U⟩;rw[zj λz=>C (m.dj i j _ a _ s l hi d v g rfl (by rw[<-z];exact f))];exact e
   ·rw[zj (zo e (m.xd j r q (by rw[<-T];exact d) i _ _ l hi v rfl))];exact k.k y u e n
 ·rcases B e1 K with⟨rfl,rfl,rfl⟩|⟨C,d⟩
  ·rcases B g G with⟨rfl,_⟩|⟨J,w⟩
   ·rfl
   ·exact m.dj i D _ b _ t x hi w v G f1 f2
  ·rcases B g G with⟨rfl,rfl,rfl⟩|⟨J,w⟩
   ·exact m.dj j i a _ s _ x d hi K v f1 f2
   ·exact m.dj j D a b s t x d w K G f1 f2
 ·rcases zR e with⟨_,z⟩|⟨_,R⟩
  ·cases z
  ·rcases B e1 g with⟨rfl,rfl,rfl⟩|⟨_,d⟩
   ·exact m.xd j r q R i _ _ x hi v f
   ·exact m.xd j r q R D a s x d g f
 ·rw[zj (zo e O)];exact m.keep y o e n
 ·rw[zj (λz=>I (by rw[<-z];exact hy))];exact m.oex y hy
theorem M.wrOwn {F:Fr}{σ:St}{H:Hp}{i:Nat}{ds es:List PyData}{l:Addr}{ys:List V}(m:M F α σ H)(hi:α[i]?=some (some (.own ds)))(a:σ[i]?=some (some (.ref l)))(av:AVs (Gz F α σ H) ys es):
  M F (α.set i (some (.own es))) σ (upd H l (.lst ys)):=m.wrC hi a (.lst av)
theorem wW (i:Nat){x:Str}{ds:List PyData}{p1 p2 p3:Pos}(hi:α[i]?=some (some (.own ds)))(h:EvD X α e λd=>ds.length<1000/\SvS X (α.set i (some (.own (ds++[d])))) rest E)
  (w:X.N[i]?=some x:=by rfl) (t:Vis X.env.scope x:=by first|exact Or.inl rfl|exact Or.inr (Or.inl rfl)|exact Or.inr (Or.inr rfl)) (hd:(x == ("__debug__":Str))=false:=by decide) (g:(x == ("__classdict__":Str))=false:=by decide)
  (b:attributeBase (.Name x p1) "append" X.env (eval (.Name x p1) X.env)=eval (.Name x p1) X.env:=by rfl) (k:starEach [e] X.env=(false,eval e X.env)::starEach [] X.env:=by rfl)
  (hpl:((((backTo p3 (starEach [e] X.env)).all λx=>!x.fst)&&(backToKw p3 (keywordEach [] X.env)).all λx=>x.fst.isSome)&&decide (([e].length+([]:List Keyword).length+if([]:List Keyword).isEmpty=true then 0 else 1)<30))=true:=by rfl)
  (a:(p2.endLine == p3.line)=true:=by rfl) (f:swapsWith (.Call (.Attribute (.Name x p1) "append" p2) [e] [] p3) none pos.line X.env=pure false:=by rfl):SvS X α (.Expr (.Call (.Attribute (.Name x p1) "append" p2) [e] [] p3) pos::rest) E:=λF σ H D m r=>by
 obtain⟨l,xs,o,s,n,y,z⟩:=m.own i ds hi;refine⟨_,zy (tU (jV z34 PySem.F.slot_list_append PySem.F.type_list_append qx (yw w t hd g) (zA zf yh k) b hpl a k) f) zG,?_⟩;refine⟨.ref l,o,.inl ⟨rfl,_,SqL.of s⟩,?_⟩;refine h F σ H _ m λd v H1 q t1 j u=>?_;have m1:=m.kz j t1;refine⟨l,xs,v,rfl,rfl,j _ _ s (m.tp.nt y),by rw[n.length];exact yk (zR4 q.1),?_⟩;exact q.2 F σ _ D (m1.wrOwn hi o ((n.same (j.gz m.tp)).append (.cons u .nil))) r
theorem uM (i:Nat){x:Str}{ds:List PyData}{p1 p2 p3:Pos}(hi:α[i]?=some (some (.own ds)))(h:EvD X α e λd=>∃es,d=.list es/\ds.length+es.length<=1000/\SvS X (α.set i (some (.own (ds++es)))) rest E)
  (A:X.N[i]?=some x:=by rfl) (u:Vis X.env.scope x:=by first|exact Or.inl rfl|exact Or.inr (Or.inl rfl)|exact Or.inr (Or.inr rfl)) (hd:(x == ("__debug__":Str))=false:=by decide) (j:(x == ("__classdict__":Str))=false:=by decide)
  (f:attributeBase (.Name x p1) "extend" X.env (eval (.Name x p1) X.env)=eval (.Name x p1) X.env:=by rfl) (n:starEach [e] X.env=(false,eval e X.env)::starEach [] X.env:=by rfl)
  (hpl:((((backTo p3 (starEach [e] X.env)).all λx=>!x.fst)&&(backToKw p3 (keywordEach [] X.env)).all λx=>x.fst.isSome)&&decide (([e].length+([]:List Keyword).length+if([]:List Keyword).isEmpty=true then 0 else 1)<30))=true:=by rfl)
  (a:(p2.endLine == p3.line)=true:=by rfl) (g:swapsWith (.Call (.Attribute (.Name x p1) "extend" p2) [e] [] p3) none pos.line X.env=pure false:=by rfl):SvS X α (.Expr (.Call (.Attribute (.Name x p1) "extend" p2) [e] [] p3) pos::rest) E:=λF σ H D m r=>by
 obtain⟨l,xs,s,t,o,B,C⟩:=m.own i ds hi;refine⟨_,zy (tU (jV z34 PySem.F.slot_list_extend PySem.F.type_list_extend gj (yw A u hd j) (zA zf yh n) f hpl a n) g) zG,?_⟩;refine⟨.ref l,s,.inl ⟨rfl,_,SqL.of t⟩,?_⟩;refine h F σ H _ m λd v H1 z t1 k y=>?_;have m1:=m.kz k t1;obtain⟨es,rfl,w,q⟩:=z;obtain⟨b,ys,rfl,g1,g2⟩:=y.lst_inv;refine⟨l,b,xs,ys,rfl,rfl,k _ _ t (m.tp.nt B),(zi g1).2,by rw[o.length,g2.length];exact zR4 (yk w),?_⟩;exact q F σ _ D (m1.wrOwn hi s ((o.same (k.gz m.tp)).append g2)) r
theorem cu (i:Nat){x:Str}{a:Expr}{ds:List PyData}{p1 p2:Pos}(hi:α[i]?=some (some (.own ds)))(h:EvD X α e λd=>EvD X α a λy=>∃k j,y=.int k/\ixN ds.length k=some j/\SvS X (α.set i (some (.own (ds.set j d)))) rest E)
  (M:X.N[i]?=some x:=by rfl) (J:Vis X.env.scope x:=by first|exact Or.inl rfl|exact Or.inr (Or.inl rfl)|exact Or.inr (Or.inr rfl)) (hd:(x == ("__debug__":Str))=false:=by decide) (A:(x == ("__classdict__":Str))=false:=by decide)
  (t:swapsWithSole [.Subscript (.Name x p1) a p2] e pos.line X.env=pure false:=by rfl) (hw:swappedStores [.Subscript (.Name x p1) a p2] e X.env=pure none:=by rfl)
  (ha:(assignEach [.Subscript (.Name x p1) a p2] X.env).map (·.2)=[assign (.Subscript (.Name x p1) a p2) X.env]:=by rfl) (f:PG X (.Subscript (.Name x p1) a p2) (za0 (cb i) (vP X a) ja):=by exact rj (yw rfl (by first|exact Or.inl rfl|exact Or.inr (Or.inl rfl)|exact Or.inr (Or.inr rfl))) zf set_list):
  SvS X α (.Assign [.Subscript (.Name x p1) a p2] e pos::rest) E:=λF σ H D m r=>by
 obtain⟨l,xs,o,G,n,s,K⟩:=m.own i ds hi;refine⟨_,zy (su zf f t hw ha) zG,?_⟩;refine h F σ H _ m λd v H1 w t1 g u=>?_;have m1:=m.kz g t1;refine⟨.ref l,o,?_⟩;refine w F σ H1 _ m1 λy L O z B b C=>?_;have m2:=m1.kz b B;obtain⟨k,j,rfl,I,q⟩:=z;cases C.int_inv;refine⟨l,xs,k,j,rfl,rfl,b _ _ (g _ _ G (m.tp.nt s)) (m.tp.nt s),by rw[n.length];exact I,?_⟩;exact q F σ _ D (m2.wrOwn hi o (((n.same (g.gz m.tp)).same (b.gz m1.tp)).set (u.same (b.gz m1.tp)) j)) r
def wo (X:Cx)(pat:Pat)(body rest:List Stmt)(E:yo):List PyData->Ev->Prop
 |[],α=>SvS X α rest E
 |d::ds,α=>∃a,pat.bind d α=some a/\SvS X a body {nx:=wo X pat body rest E ds,ct:=wo X pat body rest E ds,bk:=λb=>SvS X b rest E,rt:=E.rt}
theorem sE {pat:Pat}(R:PassesOwn (model X.prog X.w) X.A X.env X.xe)(Q:X.calm=true)(hg:PG X tg (qh X.K pat))(h:EvI X α tg iter λds=>wo X pat body rest E ds α)
  (I:∀x,foldedSetIterable iter X.env x=pure x:=by intro _;rfl):SvS X α (.For tg iter body [] pos::rest) E:=λF σ H D m r=>by
 refine⟨_,zy (cA R Q tQ hg zG I) zG,?_⟩;refine h F σ H _ m λds J H1 P t1 Y C=>?_;have m1:=m.kz Y t1;have S:=m1.up;have v:qg (F.up (Gz F α σ H1)) E D:=r.up;refine⟨λi n j H'=>n=ds.length-i/\i<=ds.length/\∃b,M (F.up (Gz F α σ H1)) b j H'/\wo X pat body rest E (ds.drop i) b,⟨ds.length,by simp,zO5 _,α,S,P⟩,?_⟩;rintro i n j H' ⟨rfl,hi,b,s,lw⟩;obtain⟨V,N⟩:=C i H' _ (m1.upold s);by_cases d:i<ds.length
 ·have hd:ds[i]?=some ds[i]:=zN2 d;rw[zR8 d]at lw;obtain⟨T,L,body⟩:=lw;obtain⟨go,W⟩:=V _ hd;refine .inr ⟨go,λg k=>∃b,M (F.up (Gz F α σ H1)) b g k/\wo X pat _ rest E (ds.drop (i+1)) b,λg k ⟨l,O,U⟩=>⟨ds.length-(i+1),(om0 d),rfl,d,l,O,U⟩,λx G y=>?_⟩;obtain⟨t,u⟩:=W x G y;have m3:=s.kz (Kz.of_same t) (s.tp.same t);refine tZ L m3 (u λa o _ e=>s.fresh e) λz m4=>?_;exact body _ z G _ m4 ⟨λf σ2 B m2 q=>⟨f,m2,q⟩,v.rt,λf σ2 B m2 q=>q _ σ2 B D m2 v,λf σ2 B m2 q=>⟨f,m2,q⟩⟩
 ·have e:i=ds.length:=(zW4 hi (zV2 d));subst e;rw[z01]at lw;exact .inl ⟨N (zN5 _),lw _ j H' D s v⟩
theorem zM {pat:Pat}{ds:List PyData}(P:Nat->Ev->Prop)(h0:P 0 α)(j:∀i d α,ds[i]?=some d->P i α->∃a,pat.bind d α=some a/\SvS X a body {nx:=P (i+1),ct:=P (i+1),bk:=λg=>SvS X g rest E,rt:=E.rt})
  (hd:∀α,P ds.length α->SvS X α rest E):wo X pat body rest E ds α:=by
 have key:∀n i α,n=ds.length-i->i<=ds.length->P i α->wo X pat body rest E (ds.drop i) α:=by
  intro n
  induction n with
  |zero=>
   intro i α hn hi p;have e:i=ds.length:=(om5 hn hi);subst e;rw[z01];exact hd α p
  |succ n h=>
   intro i α hn hi p;have f:i<ds.length:=(om6 hn);rw[zR8 f];obtain⟨a,e,b⟩:=j i ds[i] α (zN2 f) p;exact⟨a,e,b.imp (λα p=>h (i+1) α (om7 hn) f p) (λ_ z=>z) (λ_ z=>z) (λα p=>h (i+1) α (om7 hn) f p)⟩
 exact key _ 0 α rfl (zO5 _) h0
end
end
section
variable {P:Program}{w:World}{K:PySem.W.Frag}{mg:Str->Option Value}{base:Heap}
theorem M.start {F:Fr}{N:List Str}{vs:List V}{as:List A}{H:Hp}(e:F.H0=H)(t:zE F H)(o:∀x,F.O0 x->∃u,H x=some u/\wM u)(m:yf F (sub (λx=>¬F.O0 x) H) vs as):
  M F (as.map some++List.replicate (N.length-as.length) none) (L2.start N vs) H:=by
 have B:=m.length;have g:∀{i:Nat} {a:A},(as.map some++List.replicate (N.length-as.length) none)[i]?=some (some a)->as[i]?=some a:=λ{i a} h=>by
  rcases zS6 i as.length with z|z
  ·rw[zT7 (by rw[zN0];exact z),zO8,zQ0]at h;obtain⟨b,l,k⟩:=h;cases k;exact l
  ·rw[zW0 (by rw[zN0];exact z),zV9]at h;split at h<;>cases h
 have at':∀{vs:List V} {as:List A} {i:Nat} {a:A},yf F (sub (λx=>¬F.O0 x) H) vs as->as[i]?=some a->∃v,vs[i]?=some v/\iY F (sub (λx=>¬F.O0 x) H) v a:=by
  intro vs as i a h
  induction h generalizing i with
  |nil=>intro e;simp at e
  |cons h r D=>
   intro e;cases i with
   |zero=>simp at e;subst e;exact⟨_,rfl,h⟩
   |succ i=>obtain⟨v,l,k⟩:=D (by simpa using e);exact⟨v,by simpa using l,k⟩
 have E:∀{i:Nat} {v:V},vs[i]?=some v->(L2.start N vs)[i]?=some (some v):=λ{i v} h=>by
  have hi:i<vs.length:=(zN8.mp h).1;unfold L2.start;rw[zT7 (by rw[zN0];exact hi),zO8,h];rfl
 have no:∀(i:Nat) a,(as.map some++List.replicate (N.length-as.length) none)[i]?=some (some a)->(∃d,a=.dat d)\/a=.tape:=λi a z=>by
  obtain⟨v,_,h⟩:=at' m (g z);cases a with
  |dat d=>exact .inl ⟨d,rfl⟩
  |tape=>exact .inr rfl
  |_=>exact h.elim
 have C:zt (sub (λx=>¬F.O0 x) H) (Gz F (as.map some++List.replicate (N.length-as.length) none) (L2.start N vs) H):=zr λa o h e=>⟨λz=>z.elim h λn=>by
  obtain⟨i,b,s,e1,_,f⟩:=n;rcases no i b e1 with⟨d,rfl⟩|rfl
  ·exact f.elim
  ·exact f.elim,e⟩
 refine⟨by unfold L2.start;simp[B],λi a s e1 p=>?_,λi j a b s t x e1 _ _ _ f=>?_,λi r q z=>(by rcases no i _ z with⟨d,w⟩|w<;>cases w),t,λx o' h _=>by rw[<-e];exact h,o⟩
 ·obtain⟨v,l,k⟩:=at' m (g e1);rw[E l]at p;cases p;rcases no i a e1 with⟨d,rfl⟩|rfl
  ·exact⟨v,rfl,AV.same C k⟩
  ·obtain⟨t',b,c,y,rfl⟩:=k;exact⟨t',b,c,y,rfl⟩
 ·rcases no i a e1 with⟨d,rfl⟩|rfl
  ·exact f.elim
  ·exact f.elim
theorem fnA {x qual:Str}{st:Stmt}{f:Addr}{fd:FuncData}{N ps:List Str}{k:Nat}{φ:List A->(A->Prop)->Prop}(G:Fun K x qual st f fd)(S:zW N ps (zg st))(hlen:∀as Q,φ as Q->as.length=ps.length)
  (c:∀(cdv:Value) (d:Around) (outer:List Env) (s:Shared) (H:Hp) (E:XK) (as:List A) (Q:A->Prop),zN k (d.deeper (envOfC qual (zg st) s.heap.objs.size f cdv))->φ as Q->
   SvS (wx CX0 P w K mg base N qual (zg st) f cdv d outer s H E).nox (as.map some++List.replicate (N.length-as.length) none) (zv st) {nx:=λ_=>Q (.dat .none),rt:=Q}):yK P w K mg base CX0 (k+1) f fd ps (spA φ):=by
 refine G.ok S (λvs H Q E h=>?_) (λcdv d outer s H vs j E hr h=>?_)
 ·obtain⟨F,as,Q',_,_,_,g,b,_⟩:=h;rw[g.length,hlen as _ b]
 ·obtain⟨F,as,Q',e,t,o,g,b,i⟩:=h;refine c cdv d outer s H E as Q' hr b F _ H _ (M.start e t o g) ⟨λα σ H' m q=>?_,λa v H' r q=>i a v H' q r,λ_ _ _ _ z=>z.elim,λ_ _ _ _ z=>z.elim⟩;exact i _ _ _ q ⟨m.tp,m.keep,.non⟩
end
section
variable {X:Cx}{pins:List (Addr×Obj)}{σ:St}{H:Hp}{s:Shared}{h':Heap}
theorem Inv.turnL {t':Nat}{ch:List Addr}(I:Inv X pins σ H s)(k:∀b o,b∉ch->s.heap.get? b=some o->h'.get? b=some o)(hf:∀b∈ch,yX X pins H b):Inv X pins σ H {s with heap:=h',toks:=t'}:=by
 have d:∀b u,H b=some u->b∉ch:=λb u e z=>by rw[(hf b z).1]at e;cases e
 refine I.step (g':=s.gens) (d':=s.drawn) (ch:=ch) (λb hb=>?_) (λb o _ _ a e _=>k b o a e) (λb o _ _ a e _=>⟨o.slots,k b o a e⟩) (λ_ _ _ _ n=>n)
  (λb o a e=>⟨o,k b o a e⟩) (λ_ _ e=>e) (λ_ _ _ e=>e) (λb ps e=>⟨#[],by rw[e];simp⟩) (λm hm=>?_) (λb u e=>?_) I.bare
 ·obtain⟨_,f1,_,h,f4,g⟩:=hf b hb;exact⟨h,f1,f4,g⟩
 ·obtain⟨o,es,ep,f,r⟩:=hm;exact⟨o,es,ep,k _ o (λz=>(hf _ z).2.1 rfl) f,r⟩
 ·refine(I.hok b u e).stay (λc v a q=>k c v ?_ q) (λ_ q=>q) λ_ _ q=>q;rcases a with z|z
  ·rw[z];exact d b u e
  ·exact d c _ z
theorem Inv.turnLay {t':Nat}{ch:List Addr}{T:Addr}{o:HO}(I:Inv X pins σ H s)(k:∀b o,b∉ch->s.heap.get? b=some o->h'.get? b=some o)(hf:∀b∈ch,yX X pins H b)(f:s.heap.objs.size<=T)(new:zT X.prog X.w (upd H T o) h' T o):
  Inv X pins σ (upd H T o) {s with heap:=h',toks:=t'}:=by
 have d:∀b u,H b=some u->b∉ch:=λb u e z=>by rw[(hf b z).1]at e;cases e
 have hn:H T=none:=I.hok.fresh f;have lt:∀{b:Addr} {u:Obj},s.heap.get? b=some u->b≠T:=λe=>zP1 (zN4 (zO4 e) f);refine I.step (g':=s.gens) (d':=s.drawn) (ch:=ch) (λb hb=>?_) (λb o _ _ a e _=>k b o a e) (λb o _ _ a e _=>⟨o.slots,k b o a e⟩) (λb u _ e n=>by rw[zj (lt e)];exact n)
  (λb o a e=>⟨o,k b o a e⟩) (λb xs e=>by rw[zj (zo e hn)];exact e) (λb u xs e=>by rw[zj (zo e hn)];exact e) (λb ps e=>⟨#[],by rw[zj (zo e hn),e];simp⟩) (λm hm=>?_) (λb u e=>?_) I.bare
 ·obtain⟨_,f1,_,i,f4,h⟩:=hf b hb;exact⟨i,f1,f4,h⟩
 ·obtain⟨o,es,ep,g,r⟩:=hm;exact⟨o,es,ep,k _ o (λz=>(hf _ z).2.1 rfl) g,r⟩
 ·by_cases hb:b=T
  ·subst hb;rw[zm]at e;cases e;exact new
  ·rw[zj hb]at e;refine(I.hok b u e).stay (λc v a q=>k c v ?_ q) (λc q=>by rw[zj (zo q hn)];exact q) λc xs q=>by rw[zj (zo q hn)];exact q
   rcases a with z|z
   ·rw[z];exact d b u e
   ·exact d c _ z
end
theorem zL5 {a b:Nat}(h:b<a):(a:Addr)≠b:=zY4 h
def Itz (K:PySem.W.Frag)(l1 l2:Addr):It:=
 ⟨λi H=>∃xs ys x y,SqL K H l1 xs/\SqL K H l2 ys/\xs[i]?=some x/\ys[i]?=some y,
  λi H v H'=>∃T x y,v=.ref T/\H T=none/\H'=upd H T (.tup [x,y])/\(∀xs,SqL K H l1 xs->xs[i]?=some x)/\∀ys,SqL K H l2 ys->ys[i]?=some y,
  λi H=>∃xs ys,SqL K H l1 xs/\SqL K H l2 ys/\(xs.length<=i\/ys.length<=i)⟩
def Ite (K:PySem.W.Frag)(l:Addr):It:=
 ⟨λi H=>∃xs x,SqL K H l xs/\xs[i]?=some x,
  λi H v H'=>∃T x,v=.ref T/\H T=none/\H'=upd H T (.tup [.int i,x])/\∀xs,SqL K H l xs->xs[i]?=some x,
  λi H=>∃xs,SqL K H l xs/\xs.length<=i⟩
theorem zz9 {P:Program}{w:World}{K:PySem.W.Frag}{elts:List Expr}{kk:Nat}{pos:Pos}{z TI TO i1 i2 l1 l2:Addr}(D:ZipApart z TI TO i1 i2 l1 l2):
  Turn P w K (.Tuple elts kk pos) (Itz K l1 l2) [z,TI,TO,i1,i2] z (λi h=>IsZip h z TI TO .none/\IsPair h TI (.ref i1) (.ref i2)/\(∃a b,IsPair h TO a b)/\h.IsListIter i1 l1 i/\h.IsListIter i2 l2 i) where
 mem:=by simp
 obj:=λi h st b hb=>by
  obtain⟨f,g,⟨a,c,l⟩,⟨S,e1,_,d1⟩,⟨V,t,_,d2⟩⟩:=st;simp only[zN6,zP0,zR9]at hb;rcases hb with rfl|rfl|rfl|rfl|rfl
  ·exact⟨_,f,λv z=>by cases(show Data.fields _=Data.cell v from z)⟩
  ·exact⟨_,g,λv z=>by cases(show Data.seq _ _=Data.cell v from z)⟩
  ·exact⟨_,l,λv z=>by cases(show Data.seq _ _=Data.cell v from z)⟩
  ·exact⟨S,e1,λv z=>by rw[d1]at z;cases z⟩
  ·exact⟨V,t,λv z=>by rw[d2]at z;cases z⟩
 keep:=λi h h' st k=>by
  obtain⟨f,g,⟨a,c,l⟩,r,p⟩:=st;exact⟨k z (by simp) _ f,k TI (by simp) _ g,⟨a,c,k TO (by simp) _ l⟩,r.at λo e=>k i1 (by simp) o e,p.at λo e=>k i2 (by simp) o e⟩
 item:=by
  intro X L hw G Y i pins s σ H E I hf st hg;subst L hw G;obtain⟨xs,ys,x,y,j,d,U,hy⟩:=hg;obtain⟨F,m,p1,O⟩:=I.list j;obtain⟨B,n,p2,N⟩:=I.list d;obtain⟨u,hu,ru⟩:=m.get U;obtain⟨v,hv,rv⟩:=n.get hy;obtain⟨f,g,⟨a,c,l⟩,r,p⟩:=st;refine wpAny_pyNext_zip_item D f g l r p p1.isList p2.isList (x:=u) (y:=v) (by simpa using hu) (by simpa using hv) λh' a1 a2 Z a4 a5 a6 hk=>⟨_,rfl,?_⟩;refine wpAny_letOwnedTupleGo_zip (s:={s with heap:=h'}) a1 λC b1 q=>?_;have M:s.heap.objs.size≠z:=zY4 (zO4 f);have R:∀b o,b∉[z,TI,TO,i1,i2]->s.heap.get? b=some o->C.get? b=some o:=λb o hb e=>by
   simp only[zN6,zP0,zR9,not_or]at hb;exact q.extBut _ _ hb.1 (hk b o hb.1 hb.2.2.1 hb.2.2.2.1 hb.2.2.2.2 e)
  have gT:C.get? s.heap.objs.size=some {cls:=.type "tuple",data:=.seq #[u,v]}:=q.extBut _ _ M a5;have J:=I.turnLay (t':=s.toks) (T:=s.heap.objs.size) (o:=.tup [x,y]) R hf (zN5 _) ⟨by show 2<=sizeLine;decide,[u,v],.cons ru (.cons rv .nil),_,gT,rfl,0,rfl⟩;refine⟨.ref s.heap.objs.size,_,J,rfl,⟨_,x,y,rfl,I.hok.fresh (zN5 _),rfl,λzs hz=>by rw[I.list_inj hz j];exact U,λzs hz=>by rw[I.list_inj hz d];exact hy⟩,⟨b1,q.extBut _ _ D.TIz (hk _ _ D.TIz D.TITO D.TIi1 D.TIi2 g),⟨u,v,q.extBut _ _ D.TOz a2⟩,Z.extBut q.extBut D.i1z,a4.extBut q.extBut D.i2z⟩,λb hb=>?_⟩;rw[zj]
  ·exact(hf b hb).1
  ·obtain⟨o,e,_⟩:=(show ∃o,s.heap.get? b=some o/\True from by
    simp only[zN6,zP0,zR9]at hb;obtain⟨S,e1,_⟩:=r;obtain⟨V,t,_⟩:=p;rcases hb with rfl|rfl|rfl|rfl|rfl
    ·exact⟨_,f,trivial⟩
    ·exact⟨_,g,trivial⟩
    ·exact⟨_,l,trivial⟩
    ·exact⟨_,e1,trivial⟩
    ·exact⟨_,t,trivial⟩)
   exact zP1 (zO4 e)
 done:=by
  intro X L hw G Y i pins s σ H E I hf st hg;subst L hw G;obtain⟨xs,ys,j,d,hl⟩:=hg;obtain⟨F,m,p1,O⟩:=I.list j;obtain⟨B,n,p2,N⟩:=I.list d;obtain⟨f,g,⟨a,c,l⟩,r,p⟩:=st;have e1:=m.length;have t:=n.length;refine wpAny_pyNext_zip_end (I.ok.hd Y) D f g l r p p1.isList p2.isList (hl.imp (λz=>by simp;exact zO0 (zO9 e1.symm) z) λz=>by simp;exact zO0 (zO9 t.symm) z) λh' hk=>⟨rfl,?_⟩;exact I.turnL (t':=s.toks) (ch:=[z,TI,TO,i1,i2]) (λb o hb e=>by
   simp only[zN6,zP0,zR9,not_or]at hb;exact hk b o hb.1 hb.2.2.1 hb.2.2.2.1 hb.2.2.2.2 e) hf
 self:=λA i s Q E st h=>wpAny_pyIter_zip st.1 h
theorem iV {P:Program}{w:World}{K:PySem.W.Frag}{elts:List Expr}{G:Nat}{pos:Pos}{e it l:Addr}(hne:e≠it):
  Turn P w K (.Tuple elts G pos) (Ite K l) [e,it] e (λi h=>(∃old,IsEnum h e it i old)/\h.IsListIter it l i) where
 mem:=by simp
 obj:=λi h st b hb=>by
  obtain⟨⟨old,a⟩,⟨B,e1,_,O⟩⟩:=st;simp only[zN6,zP0,zR9]at hb;rcases hb with rfl|rfl
  ·exact⟨_,a,λv z=>by cases(show Data.fields _=Data.cell v from z)⟩
  ·exact⟨B,e1,λv z=>by rw[O]at z;cases z⟩
 keep:=λi h h' st k=>by
  obtain⟨⟨old,a⟩,f⟩:=st;exact⟨⟨old,k e (by simp) _ a⟩,f.at λo q=>k it (by simp) o q⟩
 item:=by
  intro X p hw m C i pins s σ H E I hf st hg;subst p hw m;obtain⟨xs,x,c,D⟩:=hg;obtain⟨g,d,p1,y⟩:=I.list c;obtain⟨u,N,L⟩:=d.get D;obtain⟨⟨old,a⟩,f⟩:=st;refine wpAny_pyNext_enum_item a f p1.isList (x:=u) (by simpa using N) hne λh' a1 F S V hk=>⟨_,rfl,?_⟩;refine wpAny_letOwnedTupleGo_enum (s:={s with heap:=h',toks:=s.toks+1}) a1 λj U t=>?_;have r:s.heap.objs.size≠e:=zY4 (zO4 a);have n:∀b o,b∉[e,it]->s.heap.get? b=some o->j.get? b=some o:=λb o hb q=>by
   simp only[zN6,zP0,zR9,not_or]at hb;exact t.extBut _ _ hb.1 (hk b o hb.1 hb.2 q)
  have R:j.get? s.heap.objs.size=some {cls:=.type "tuple",data:=.seq #[.int i s.toks,u]}:=t.extBut _ _ r S;have J:=I.turnLay (t':=s.toks+1) (T:=s.heap.objs.size) (o:=.tup [.int i,x]) n hf (zN5 _) ⟨by show 2<=sizeLine;decide,[.int i s.toks,u],.cons ⟨_,rfl⟩ (.cons L .nil),_,R,rfl,0,rfl⟩;refine⟨.ref s.heap.objs.size,_,J,rfl,⟨_,x,rfl,I.hok.fresh (zN5 _),rfl,λzs hz=>by rw[I.list_inj hz c];exact D⟩,⟨⟨u,by simpa using U⟩,F.extBut t.extBut hne.symm⟩,λb hb=>?_⟩;rw[zj]
  ·exact(hf b hb).1
  ·obtain⟨o,q,_⟩:=(show ∃o,s.heap.get? b=some o/\True from by
    simp only[zN6,zP0,zR9]at hb;obtain⟨B,e1,_⟩:=f;rcases hb with rfl|rfl
    ·exact⟨_,a,trivial⟩
    ·exact⟨_,e1,trivial⟩)
   exact zP1 (zO4 q)
 done:=by
  intro X p hw m C i pins s σ H E I hf st hg;subst p hw m;obtain⟨xs,c,M⟩:=hg;obtain⟨g,d,p1,y⟩:=I.list c;obtain⟨⟨old,a⟩,f⟩:=st;have e1:=d.length;refine wpAny_pyNext_enum_end (I.ok.hd C) a f p1.isList (by simp;exact zO0 (zO9 e1.symm) M) λh' hk=>⟨rfl,?_⟩;exact I.turnL (t':=s.toks) (ch:=[e,it]) (λb o hb q=>by
   simp only[zN6,zP0,zR9,not_or]at hb;exact hk b o hb.2 q) hf
 self:=λA i s Q E st h=>by
  obtain⟨⟨old,a⟩,f⟩:=st;exact wpAny_pyIter_enum a h
section
variable {X:Cx}{α:Ev}{elts:List Expr}{kk:Nat}{tp p pos:Pos}{a b:Expr}
def zH5 (K:PySem.W.Frag)(c:TA):TI:=λσ H R=>c σ H λvs H1=>∃l,vs=[.ref l]/\(∃xs,SqL K H1 l xs)/\R (Ite K l) H1
theorem ze1 {j:TA}(hg:Gl X "enumerate")(hm:X.mg "enumerate"=none)(ha:PA X [a] j)(l:starEach [a] X.env=[(false,eval a X.env)]:=by rfl):
  PI X (.Tuple elts kk tp) (.Call (.Name "enumerate" p) [a] [] pos) (zH5 X.K j):=by
 intro pins s σ H R I h;refine Call_ (xD I hg hm boot_enumerate (zU7 (thn (ha pos pins s σ H _ I h) λus s1 g=>?_) l rfl));obtain⟨vs,H1,d,r,t⟩:=g;obtain⟨l1,e,⟨xs,f⟩,q⟩:=t;subst e;obtain⟨u,rfl,m⟩:=Vals.one r;cases(show u=Value.ref l1 from m);obtain⟨k,v,p1,x⟩:=d.list f;refine call_enumerate_list p1.isList λh' i w y hk=>?_;refine wpAny_pyIter_enum (s:={s1 with heap:=h'}) i ?_;refine⟨_,_,_,_,H1,rfl,d.kept (t':=s1.toks) λb o e=>hk b o e,iV (zL5 (a:=s1.heap.objs.size+1) (b:=s1.heap.objs.size) (zT3 _)),⟨⟨_,i⟩,w⟩,λb hb=>?_,q⟩;simp only[zN6,zP0,zR9]at hb;have c:s1.heap.objs.size<=b:=by
  have key:∀n b:Nat,n=s1.heap.objs.size->(b=n+1\/b=n)->n<=b:=λn b _ h=>by lia
  exact key _ _ rfl hb
 exact d.fpOk c (d.hok.fresh c)
def uX (n:Nat):List PyData->List PyData
 |[]=>[]
 |d::ds=>.tuple [.int n,d]::uX (n+1) ds
theorem wU :∀{ds:List PyData}{n i:Nat}{d:PyData},(uX n ds)[i]?=some d->∃e,ds[i]?=some e/\d=.tuple [.int ((n+i:Nat):Int),e]
 |[],n,i,d,h=>by simp[uX]at h
 |e::ds,n,0,d,h=>by simp[uX]at h;exact⟨e,rfl,by simp[<-h]⟩
 |e::ds,n,i+1,d,h=>by
  simp only[uX,z65]at h;obtain⟨c,f,g⟩:=wU h;exact⟨c,by simpa using f,by rw[g,Nat.add_assoc,Nat.add_comm 1 i]⟩
theorem vc :∀(ds:List PyData) (n:Nat),(uX n ds).length=ds.length
 |[],_=>rfl
 |_::ds,n=>by simp[uX,vc ds (n+1)]
theorem jk {Q:List PyData->Prop}(hg:Gl X "enumerate")(hm:X.mg "enumerate"=none)(h:EvD X α a λx=>∃ds,x=.list ds/\Q (uX 0 ds))(l:starEach [a] X.env=[(false,eval a X.env)]:=by rfl):
  EvI X α (.Tuple elts kk tp) (.Call (.Name "enumerate" p) [a] [] pos) Q:=λF σ H R m k=>by
 refine⟨_,ze1 hg hm (zA zf yh l) l,?_⟩;refine h F σ H _ m λx E H1 z t1 C w=>?_;obtain⟨ds,rfl,q⟩:=z;obtain⟨l1,xs,rfl,g1,g2⟩:=w.lst_inv;refine⟨l1,rfl,⟨xs,SqL.of (zi g1).2⟩,k _ _ H1 q t1 C λi A p s=>⟨λd hd=>?_,λn=>?_⟩⟩
 ·have s1:=SqL.of (K:=X.K) (zi (s _ _ g1)).2;obtain⟨e,he,rfl⟩:=wU hd;obtain⟨r,c,g⟩:=g2.get he;refine⟨⟨xs,r,s1,c⟩,λv D y=>?_⟩;obtain⟨T,x,rfl,j,rfl,f⟩:=y;have f:=f _ s1;rw[c]at f;cases f;refine⟨zH j,λfr=>?_⟩;have B:zt (Gz F α σ H1) (sub p (upd A T (.tup [.int i,r]))):=λa o e=>by
   obtain⟨u,t⟩:=zi (s a o e);exact zF u (by rw[zj (zo t j)];exact t)
  refine .tup (zF (fr T _ zm j) zm) (.cons ?_ (.cons (g.same B) .nil));rw[Nat.zero_add];exact .int _
 ·refine⟨xs,SqL.of (zi (s _ _ g1)).2,?_⟩;rw[vc,<-g2.length]at n;exact n
end
structure Cal (P:Program)(w:World)(K:PySem.W.Frag)(mg:Str->Option Value)(base:Heap)(x:Str)(k:Nat)(φ:List A->(A->Prop)->Prop):Prop where
 ex:∃f fd ps,mg x=some (.ref f)/\PySem.W.keepIn K (.ref f)=true/\Binds K fd ps []/\yK P w K mg base CX0 k f fd ps (spA φ)
section
variable {X:Cx}{α:Ev}{e a b:Expr}{es:List Expr}{pos p:Pos}{Q:PyData->Prop}{k:Nat}{φ:List A->(A->Prop)->Prop}{x:Str}
theorem xC (C:Cal X.prog X.w X.K X.mg X.base x k φ)(hr:zN k X.A)(hg:Gl X x)(h:EvA X α (e::es) λas=>φ as λa=>Q a.d)
  (c:(x == ("__debug__":Str))=false:=by decide) (he:starEach (e::es) X.env=(false,eval e X.env)::starEach es X.env:=by rfl) (hpl:(backTo pos (starEach es X.env)).any (·.1)=false:=by rfl):EvD X α (.Call (.Name x p) (e::es) [] pos) Q:=by
 obtain⟨f,fd,ps,g,i,j,l⟩:=C.ex;exact zd3 l hr hg g i j h c he hpl
theorem wK {Q:List PyData->Prop}(C:Cal X.prog X.w X.K X.mg X.base x k φ)(hr:zN k X.A)(hg:Gl X x)(h:EvA X α (e::es) λas=>φ as λa=>∃ds,a=.own ds/\Q ds)
  (c:(x == ("__debug__":Str))=false:=by decide) (he:starEach (e::es) X.env=(false,eval e X.env)::starEach es X.env:=by rfl) (hpl:(backTo pos (starEach es X.env)).any (·.1)=false:=by rfl):EvL X α (.Call (.Name x p) (e::es) [] pos) Q:=by
 obtain⟨f,fd,ps,g,i,d,j⟩:=C.ex;exact zc5 j hr hg g i d h c he hpl
end
section
variable {P:Program}{w:World}{K:PySem.W.Frag}{mg:Str->Option Value}{base:Heap}
theorem zJ7 {x qual:Str}{st:Stmt}{f:Addr}{fd:FuncData}{N ps:List Str}{k:Nat}{φ:List A->(A->Prop)->Prop}(G:Fun K x qual st f fd)(hm:mg x=some (.ref f))(hb:Binds K fd ps [])(S:zW N ps (zg st))(hlen:∀as Q,φ as Q->as.length=ps.length)
  (a:∀(cdv:Value) (b:Around) (outer:List Env) (s:Shared) (H:Hp) (E:XK) (as:List A) (Q:A->Prop),zN k (b.deeper (envOfC qual (zg st) s.heap.objs.size f cdv))->φ as Q->
   SvS (wx CX0 P w K mg base N qual (zg st) f cdv b outer s H E).nox (as.map some++List.replicate (N.length-as.length) none) (zv st) {nx:=λ_=>Q (.dat .none),rt:=Q}):Cal P w K mg base x (k+1) φ:=
 ⟨f,fd,ps,hm,G.kp,hb,fnA G S hlen a⟩
theorem Cal.imp {x:Str}{k:Nat}{φ i:List A->(A->Prop)->Prop}(C:Cal P w K mg base x k φ)(h:∀as Q,i as Q->φ as Q):Cal P w K mg base x k i:=by
 obtain⟨f,fd,ps,m,n,l,o⟩:=C.ex;exact⟨f,fd,ps,m,n,l,o.imp λvs H Q E j=>by obtain⟨F,as,Q',a,b,c,d,e,g⟩:=j;exact⟨F,as,Q',a,b,c,d,h _ _ e,g⟩⟩
def xp :List A->(A->Prop)->Prop:=λas Q=>∃n:Int,as=[.tape,.dat (.int n)]/\0<n/\n<big/\∀v,0<=v->v<n->Q (.dat (.int v))
end
section
variable {Y:Addr->Shared->Hp->List Addr->Cx}{pat:Pat}{ifs:List Expr}{elt:Expr}{α0:Ev}
theorem iC {ds acc:List PyData}{Q:List PyData->Prop}(P:Nat->List PyData->Prop)(h0:P 0 acc)
  (h:∀i d acc,ds[i]?=some d->P i acc->∃a,pat.bind d α0=some a/\∀C s2 f fp,iZ (Y C s2 f fp) a ifs λk=>if k=true then ∀C s2 f fp,EvD (Y C s2 f fp) a elt λy=>P (i+1) (acc++[y])else P (i+1) acc)
  (hd:∀acc,P ds.length acc->Q acc):xf Y pat ifs elt α0 ds acc Q:=by
 have key:∀n i acc,n=ds.length-i->i<=ds.length->P i acc->xf Y pat ifs elt α0 (ds.drop i) acc Q:=by
  intro n
  induction n with
  |zero=>
   intro i acc hn hi p;have e:i=ds.length:=(om5 hn hi);subst e;rw[z01];exact hd acc p
  |succ n g=>
   intro i acc hn hi p;have c:i<ds.length:=(om6 hn);rw[zR8 c];obtain⟨a,e,b⟩:=h i ds[i] acc (zN2 c) p;refine⟨a,e,λC s2 f fp F σ H R m j=>b C s2 f fp F σ H R m λk H' q=>j k H' ?_⟩;cases k with
   |true=>
    rw[if_pos rfl]at q ⊢;exact λC s2 f fp=>(q C s2 f fp).imp λy p=>g (i+1) _ (om7 hn) c p
   |false=>
    rw[if_neg (by decide)]at q ⊢;exact g (i+1) _ (om7 hn) c q
 exact key _ 0 acc rfl (zO5 _) h0
theorem xZ {ds acc:List PyData}{Q:List PyData->Prop}(p:PyData->Bool)(f:PyData->PyData)
  (g:∀d∈ds,∃a,pat.bind d α0=some a/\(∀C s2 b fp (Q:Bool->Prop),Q (p d)->iZ (Y C s2 b fp) a ifs Q)/\(p d=true->∀C s2 b fp (Q:PyData->Prop),Q (f d)->EvD (Y C s2 b fp) a elt Q))
  (hd:Q (acc++(ds.filter p).map f)):xf Y pat ifs elt α0 ds acc Q:=by
 induction ds generalizing acc with
 |nil=>
  show Q acc;simpa using hd
 |cons d ds h=>
  obtain⟨a,e,i,j⟩:=g d zO1;refine⟨a,e,λC s2 b fp=>i C s2 b fp _ ?_⟩;have c:=λacc=>h (acc:=acc) λd hd=>g d (zN7 _ hd);cases hp:p d with
  |true=>
   rw[if_pos rfl];refine λC s2 b fp=>j hp C s2 b fp _ (c _ ?_);simpa[z28,hp]using hd
  |false=>
   rw[if_neg (by decide)];refine c _ ?_;simpa[z28,hp]using hd
end
theorem zn6 {ds:List PyData}{v:Int}(h0:0<=v)(b:v<ds.length):∃d,d∈ds/\atI ds v=some d:=by
 obtain⟨j,rfl⟩:=zZ8 h0;have a:j<ds.length:=(om9 b);exact⟨ds[j],zS7 a,wV (zN2 a)⟩
theorem mY (st:Stmt)(env:Env):execs [st] env=exec st env:=by
 rw[PySem.execs_cons];have:(λf:Flow=>(match f with|.next=>execs [] env|f=>pure f:Sem Flow))=pure:=by
  funext f
  cases f<;>rfl
 exact(congrArg (λg=>exec st env >>= g) this).trans (bind_pure _)
section
variable {X:Cx}{α:Ev}{e a b c:Expr}{es rest:List Expr}{pos p:Pos}{Q:PyData->Prop}{E:yo}{st:Stmt}{sts sts':List Stmt}
theorem xo (P:Ev->Prop)(i:SvS X α [st] {E with nx:=P})(j:∀d,P d->SvS X d sts E):SvS X α (st::sts) E:=λF σ H D m r=>by
 refine sg (λf H'=>∃d,M F d f H'/\P d) ?_ ?_
 ·obtain⟨t,p,q⟩:=i F σ H {D with nx:=λf H'=>∃d,M F d f H'/\P d} m ⟨λd f H' g z=>⟨d,g,z⟩,r.rt,r.bk,r.ct⟩;exact⟨t,λpins s σ H D I h=>(by
   have:=p pins s σ H D I h;rw[mY]at this;exact this),q⟩
 ·rintro f H' ⟨d,g,z⟩;exact j d z F f H' D g r
theorem cp {c:Prop}[Decidable c]{a b:List Stmt}(d:c->SvS X α a E)(f:¬c->SvS X α b E):SvS X α (if decide c=true then a else b) E:=by
 by_cases h:c
 ·rw[zS0 h];exact d h
 ·rw[zQ3 h];exact f h
theorem ya {k:Bool}{a b:List Stmt}(d:k=true->SvS X α a E)(f:k=false->SvS X α b E):SvS X α (if k=true then a else b) E:=by
 cases k with
 |true=>exact d rfl
 |false=>exact f rfl
theorem jY {i j:Int}:Cmp rEq (.int i) (.int j) (decide (i=j)):=λp H g k R f d h=>by
 cases f.int_inv;cases d.int_inv;refine⟨rfl,?_⟩;rw[show decide (V.int i=V.int j)=decide (i=j) by simp];exact h
theorem aV {i j:Int}:Cmp rNe (.int i) (.int j) (!decide (i=j)):=λp H g k R f d h=>by
 cases f.int_inv;cases d.int_inv;refine⟨rfl,?_⟩;rw[show decide (V.int i=V.int j)=decide (i=j) by simp];exact h
theorem jX {i j:Str}:Cmp rEq (.str i) (.str j) (decide (i=j)):=λp H g k R f d h=>by
 cases f.str_inv;cases d.str_inv;refine⟨rfl,?_⟩;rw[show decide (V.str i=V.str j)=decide (i=j) by simp];exact h
theorem zx3 {op:CmpOp}{r:R2}(j:OpR X (compareOp op) r)(hm:behindInMarks op b=false)(h:EvD X α a λx=>EvD X α b λy=>∃k,Cmp r x y k/\Q (.bool k)):EvD X α (.Compare a [op] [b] pos) Q:=λF σ H R m k=>by
 refine⟨_,om j zf zf hm,?_⟩;refine h F σ H _ m λx u H1 t t1 g s=>?_;have m1:=m.kz g t1;refine t F σ H1 _ m1 λy n d i l f o=>?_;obtain⟨b,v,q⟩:=i;exact v _ d u n _ (s.same (f.gz m1.tp)) o (k _ _ d q l (g.trans f) (.bl b))
theorem zu7 {Q:Bool->Prop}(h:EvD X α a λx=>EvD X α b λy=>∃i j,x=.int i/\y=.int j/\Q (decide (i=j))):EvT X α (.Compare a [.Eq] [b] pos) Q:=
 wO cq (yJ _) (h.imp λx h=>h.imp λy d=>by obtain⟨i,j,e1,f,q⟩:=d;exact⟨_,by subst e1 f;exact jY,q⟩)
theorem bA {Q:Bool->Prop}(h:EvD X α a λx=>EvD X α b λy=>∃i j,x=.str i/\y=.str j/\Q (decide (i=j))):EvT X α (.Compare a [.Eq] [b] pos) Q:=
 wO cq (yJ _) (h.imp λx h=>h.imp λy d=>by obtain⟨i,j,e1,f,q⟩:=d;exact⟨_,by subst e1 f;exact jX,q⟩)
theorem jJ {p q:Bool}{Q:Bool->Prop}(ha:∀Q:Bool->Prop,Q p->EvT X α a Q)(hb:p=true->∀Q:Bool->Prop,Q q->EvW X α (.BoolOp .And (b::rest) pos) Q)(k:Q (p&&q)):EvW X α (.BoolOp .And (a::b::rest) pos) Q:=by
 refine oi (ha _ ?_);cases p with
 |true=>rw[if_pos rfl];exact hb rfl _ (by simpa using k)
 |false=>rw[if_neg (by decide)];simpa using k
end
structure NbT (mg:Str->Option Value):Prop where
 abs:mg "abs"=none
 list:mg "list"=none
 len:mg "len"=none
 range:mg "range"=none
 min:mg "min"=none
 max:mg "max"=none
 sorted:mg "sorted"=none
 isinstance:mg "isinstance"=none
 int:mg "int"=none
 bool:mg "bool"=none
 str:mg "str"=none
 tuple:mg "tuple"=none
 all:mg "all"=none
 any:mg "any"=none
 repr:mg "repr"=none
 zip:mg "zip"=none
 enumerate:mg "enumerate"=none
 reversed:mg "reversed"=none
 sum:mg "sum"=none
theorem xI {X:Cx}{K:PySem.W.Frag}{es:List Expr}{k:Nat}{t:TGs}{n:Nat}{pos:Pos}(b:X.K=K)(c:X.calm=true)(h:PGs X es t)
  (hn:(assignEach es X.env).length=n:=by rfl) (a:(assignEach es X.env).findIdx? (·.1)=none:=by rfl):PG X (.Tuple es k pos) (cR K n t):=by
 subst b;exact bj c h hn a
end L2
namespace SortA
open PySem PySem.W PyProof.Rows
def run {α:Type}(lt:Nat->Nat->Bool):KasT α->α
 |.ret a=>a
 |.ask i j k=>run lt (k (lt i j))
theorem run_bind {α β:Type}(lt:Nat->Nat->Bool)(f:α->KasT β):∀t:KasT α,run lt (t.bind f)=run lt (f (run lt t))
 |.ret _=>rfl
 |.ask i j k=>run_bind lt f (k (lt i j))
structure Ord (lt:Nat->Nat->Bool):Prop where
 irr:∀a,lt a a=false
 tr:∀a b c,lt b a=false->lt c b=false->lt c a=false
 asy:∀a b,lt a b=true->lt b a=false
abbrev g (p:Array Nat)(i:Nat):Nat:=p.getD i 0
def Up (lt:Nat->Nat->Bool)(p:Array Nat)(m:Nat):Prop:=∀i j,i<=j->j<m->lt (g p j) (g p i)=false
def Down (lt:Nat->Nat->Bool)(p:Array Nat)(m:Nat):Prop:=∀i j,i<=j->j<m->lt (g p i) (g p j)=false
theorem dw {p q:Array Nat}{i j:Nat}(h:p[i]?=q[j]?):g p i=g q j:=by
 unfold g;rw[Array.getD_eq_getD_getElem?,Array.getD_eq_getD_getElem?,h]
variable {lt:Nat->Nat->Bool}
theorem Up.succ (O:Ord lt){p:Array Nat}{m:Nat}(h:Up lt p m)(hm:0<m)(e:lt (g p m) (g p (m-1))=false):Up lt p (m+1):=λi j a d=>by
 by_cases e1:j<m
 ·exact h i j a e1
 ·have c:j=m:=(zW4 (zX5 d) (zV2 e1));subst c;by_cases b:i=j
  ·subst b;exact O.irr _
  ·exact O.tr _ _ _ (h i (j-1) (zk1 a b) (oK hm)) e
theorem Down.succ (O:Ord lt){p:Array Nat}{m:Nat}(h:Down lt p m)(hm:0<m)(e:lt (g p (m-1)) (g p m)=false):Down lt p (m+1):=λi j a d=>by
 by_cases e1:j<m
 ·exact h i j a e1
 ·have c:j=m:=(zW4 (zX5 d) (zV2 e1));subst c;by_cases b:i=j
  ·subst b;exact O.irr _
  ·exact O.tr _ _ _ e (h i (j-1) (zk1 a b) (oK hm))
theorem zy9 (O:Ord lt)(p:Array Nat):Up lt p 1:=λi j a b=>by
 have e1:i=0:=(zh1 b a);have c:j=0:=(zi0 b);rw[e1,c];exact O.irr _
theorem uF (O:Ord lt)(p:Array Nat):∀(f n:Nat),0<n->Up lt p n->n<=run lt (kas_asc p f n)/\run lt (kas_asc p f n)<=n+f/\Up lt p (run lt (kas_asc p f n))/\
  (run lt (kas_asc p f n)<n+f->lt (g p (run lt (kas_asc p f n))) (g p (run lt (kas_asc p f n)-1))=true)
 |0,n,_,h=>⟨zN5 _,zN5 _,h,λz=>absurd z (zT2 _)⟩
 |f+1,n,hn,h=>by
  show n<=run lt ((λc=>if c=true then KasT.ret n else kas_asc p f (n+1)) (lt (p.getD n 0) (p.getD (n-1) 0)))/\_;cases e:lt (p.getD n 0) (p.getD (n-1) 0)with
  |true=>
   have i:run lt (kas_asc p (f+1) n)=n:=by
    show run lt ((λc=>if c=true then KasT.ret n else kas_asc p f (n+1)) (lt (p.getD n 0) (p.getD (n-1) 0)))=n;rw[e];rfl
   rw[i];exact⟨zN5 _,(zP2 _ _),h,λ_=>e⟩
  |false=>
   have i:run lt (kas_asc p (f+1) n)=run lt (kas_asc p f (n+1)):=by
    show run lt ((λc=>if c=true then KasT.ret n else kas_asc p f (n+1)) (lt (p.getD n 0) (p.getD (n-1) 0)))=_;rw[e];rfl
   rw[i];obtain⟨a,b,c,d⟩:=uF O p f (n+1) (z46 _) (h.succ O hn e);exact⟨by show n<=run lt (kas_asc p f (n+1));exact zO0 (zP2 _ _) a,(jQ b),c,λz=>d (by lia)⟩
theorem uW {p:Array Nat}{i j:Nat}(a:j<=p.size)(k:Nat):g (kas_rev p i j) k=if i<=k/\k<j then g p (i+j-1-k)else g p k:=by
 have h:=getElem?_mirror_all (xs:=p) (i:=i) a k;split
 ·rename_i c;rw[if_pos c]at h;exact dw h
 ·rename_i c;rw[if_neg c]at h;exact dw h
theorem xm (p:Array Nat)(i j:Nat):(kas_rev p i j).size=p.size:=mirror_size _ _ _ _
theorem yG (p:Array Nat)(i j:Nat):(kas_rev p i j).Perm p:=mirror_perm _ _ _ _
def Eqv (lt:Nat->Nat->Bool)(a b:Nat):Prop:=lt a b=false/\lt b a=false
theorem Down.eqv (O:Ord lt){p q:Array Nat}{n:Nat}(h:Down lt p n)(e:∀k,k<n->Eqv lt (g q k) (g p k)):Down lt q n:=λi j a b=>
 O.tr _ _ _ (O.tr _ _ _ (e j b).2 (h i j a b)) (e i (zP5 a b)).1
def Last (lt:Nat->Nat->Bool)(p:Array Nat)(n q:Nat):Prop:=∀a b,n<=a+(q+1)->a<n->n<=b+(q+1)->b<n->lt (g p a) (g p b)=false
theorem rev_last (O:Ord lt){p:Array Nat}{n q:Nat}(hn:n<=p.size)(hq:q<n)(L:Last lt p n q):∀k,k<n->Eqv lt (g (kas_rev p (n-(q+1)) n) k) (g p k):=λk hk=>by
 rw[uW hn];split
 ·rename_i c;exact⟨L _ _ (zk4 hk) (zj9 c.2 c.1) (zn7 c.1) hk,L _ _ (zn7 c.1) hk (zk4 hk) (zj9 c.2 c.1)⟩
 ·exact⟨O.irr _,O.irr _⟩
theorem tT (O:Ord lt):∀(f:Nat) (p:Array Nat) (n q:Nat),q<n->n+f<=p.size->Down lt p n->Last lt p n q->
  ∃i m j,run lt (kas_desc f p n q)=(i,m,j)/\n<=m/\m<=n+f/\i.size=p.size/\i.Perm p/\j<m/\Down lt i m/\Last lt i m j
 |0,p,n,q,hq,s,h,L=>⟨p,n,q,rfl,zN5 _,zN5 _,rfl,zX7 _,hq,h,L⟩
 |f+1,p,n,q,hq,s,h,L=>by
  cases e:lt (p.getD n 0) (p.getD (n-1) 0)with
  |true=>
   by_cases w:q > 0
   ·have r:run lt (kas_desc (f+1) p n q)=run lt (kas_desc f (kas_rev p (n-(q+1)) n) (n+1) 0):=by
     show run lt ((λc=>if c=true then(if q > 0 then kas_desc f (kas_rev p (n-(q+1)) n) (n+1) 0 else kas_desc f p (n+1) 0)
      else .ask (p.getD (n-1) 0) (p.getD n 0) λd=>if d=true then .ret (p,n,q)else kas_desc f p (n+1) (q+1)) (lt (p.getD n 0) (p.getD (n-1) 0)))=_
     rw[e];show run lt (if q > 0 then _ else _)=_;rw[if_pos w]
    have ev:=rev_last O ((zO0 (zP2 _ _) s):n<=p.size) hq L;have l:=h.eqv O ev;have hn:g (kas_rev p (n-(q+1)) n) n=g p n:=by rw[uW (zO0 (zP2 _ _) s),if_neg (zn3)]
    have o:Down lt (kas_rev p (n-(q+1)) n) (n+1):=l.succ O (zP5 (zO5 _) hq) (by
     rw[hn];exact O.tr _ _ _ (O.asy _ _ e) (ev (n-1) (oK hq)).1)
    obtain⟨i,m,j,a,b,c,y,t,x,v,A⟩:=tT O f (kas_rev p (n-(q+1)) n) (n+1) 0 (z46 _) (by rw[xm];exact jK s) o (λa b l o u z=>by
     have e1:a=n:=(qu l o);have k:b=n:=(qu u z);rw[e1,k];exact O.irr _)
    exact⟨i,m,j,r.trans a,(zO0 (zP2 _ _) b),(jQ c),by rw[y,xm],t.trans (yG _ _ _),x,v,A⟩
   ·have r:run lt (kas_desc (f+1) p n q)=run lt (kas_desc f p (n+1) 0):=by
     show run lt ((λc=>if c=true then(if q > 0 then kas_desc f (kas_rev p (n-(q+1)) n) (n+1) 0 else kas_desc f p (n+1) 0)
      else .ask (p.getD (n-1) 0) (p.getD n 0) λd=>if d=true then .ret (p,n,q)else kas_desc f p (n+1) (q+1)) (lt (p.getD n 0) (p.getD (n-1) 0)))=_
     rw[e];show run lt (if q > 0 then _ else _)=_;rw[if_neg w]
    obtain⟨i,m,j,a,b,c,y,t,x,v,A⟩:=tT O f p (n+1) 0 (z46 _) (jK s) (h.succ O (zP5 (zO5 _) hq) (O.asy _ _ e)) (λa b l o u z=>by
     have e1:a=n:=(qu l o);have k:b=n:=(qu u z);rw[e1,k];exact O.irr _)
    exact⟨i,m,j,r.trans a,(zO0 (zP2 _ _) b),(jQ c),y,t,x,v,A⟩
  |false=>
   cases k:lt (p.getD (n-1) 0) (p.getD n 0)with
   |true=>
    have r:run lt (kas_desc (f+1) p n q)=(p,n,q):=by
     show run lt ((λc=>if c=true then(if q > 0 then kas_desc f (kas_rev p (n-(q+1)) n) (n+1) 0 else kas_desc f p (n+1) 0)
      else .ask (p.getD (n-1) 0) (p.getD n 0) λd=>if d=true then .ret (p,n,q)else kas_desc f p (n+1) (q+1)) (lt (p.getD n 0) (p.getD (n-1) 0)))=_
     rw[e];show run lt ((λd=>if d=true then KasT.ret (p,n,q)else kas_desc f p (n+1) (q+1)) (lt (p.getD (n-1) 0) (p.getD n 0)))=_;rw[k];rfl
    exact⟨p,n,q,r,zN5 _,(zP2 _ _),rfl,zX7 _,hq,h,L⟩
   |false=>
    have r:run lt (kas_desc (f+1) p n q)=run lt (kas_desc f p (n+1) (q+1)):=by
     show run lt ((λc=>if c=true then(if q > 0 then kas_desc f (kas_rev p (n-(q+1)) n) (n+1) 0 else kas_desc f p (n+1) 0)
      else .ask (p.getD (n-1) 0) (p.getD n 0) λd=>if d=true then .ret (p,n,q)else kas_desc f p (n+1) (q+1)) (lt (p.getD n 0) (p.getD (n-1) 0)))=_
     rw[e];show run lt ((λd=>if d=true then KasT.ret (p,n,q)else kas_desc f p (n+1) (q+1)) (lt (p.getD (n-1) 0) (p.getD n 0)))=_;rw[k];rfl
    have E:Last lt p (n+1) (q+1):=λa b l o u z=>by
     have two:∀a,n+1<=a+(q+1+1)->a<n+1->Eqv lt (g p a) (g p (n-1)):=λa C D=>by
      by_cases B:a=n
      ·rw[B];exact⟨e,k⟩
      ·exact⟨L a (n-1) (zo4 C) (eJ D B) (zl5) (oK hq),L (n-1) a (zl5) (oK hq) (zo4 C) (eJ D B)⟩
     exact O.tr _ _ _ (two b u z).2 (two a l o).1
    obtain⟨i,m,j,a,b,c,y,t,x,v,A⟩:=tT O f p (n+1) (q+1) (Nat.add_lt_add_right hq _) (jK s) (h.succ O (zP5 (zO5 _) hq) k) E;exact⟨i,m,j,r.trans a,(zO0 (zP2 _ _) b),(jQ c),y,t,x,v,A⟩
theorem zv2 {p:Array Nat}{n:Nat}(hn:n<=p.size)(h:Down lt p n):Up lt (kas_rev p 0 n) n:=λi j b a=>by
 rw[uW hn,uW hn,if_pos (⟨(zO5 _),a⟩),if_pos (⟨(zO5 _),(zP5 b a)⟩)];exact h _ _ (by lia) (zl1 a)
theorem mv (O:Ord lt){p:Array Nat}{n nrem:Nat}(h0:0<n)(hn:n<=nrem)(e:nrem<=p.size)(h:Down lt p n):
  ∃d m,run lt (kas_tail3 n nrem p)=(m,d)/\1<=m/\m<=nrem/\d.size=p.size/\d.Perm p/\Up lt d m:=by
 obtain⟨a,b,c,_⟩:=uF O (kas_rev p 0 n) (nrem-n) n h0 (zv2 (zO0 hn e) h);refine⟨kas_rev p 0 n,run lt (kas_asc (kas_rev p 0 n) (nrem-n) n),?_,by lia,(dO b hn),xm _ _ _,yG _ _ _,c⟩;unfold kas_tail3;rw[run_bind];rfl
theorem tw (O:Ord lt){p:Array Nat}{n nrem:Nat}(h0:0<n)(hn:n+1<=nrem)(q:nrem<=p.size)(h:Down lt p (n+1)):
  ∃c m,run lt (kas_descPart n nrem p)=(m,c)/\1<=m/\m<=nrem/\c.size=p.size/\c.Perm p/\Up lt c m:=by
 obtain⟨p1,m1,x,e,a1,a2,d,r,k,s,t⟩:=tT O (nrem-(n+1)) p (n+1) 0 (z46 _) (by lia) h (λa b v w u z=>by
  have e1:a=n:=(qu v w);have y:b=n:=(qu u z);rw[e1,y];exact O.irr _)
 unfold kas_descPart;rw[run_bind,e];dsimp only;split
 ·obtain⟨c,m,o,l,i,f,j,g⟩:=mv O (p:=kas_rev p1 (m1-(x+1)) m1) (n:=m1) (nrem:=nrem) (zP5 (zO5 _) k) (dO a2 hn) (by rw[xm];exact zO0 q (zO9 d.symm)) (s.eqv O (rev_last O (by lia) k t));exact⟨c,m,o,l,i,by rw[f,xm,d],(j.trans (yG _ _ _)).trans r,g⟩
 ·obtain⟨c,m,o,l,i,f,j,g⟩:=mv O (p:=p1) (n:=m1) (nrem:=nrem) (zP5 (zO5 _) k) (dO a2 hn) (zO0 q (zO9 d.symm)) s;exact⟨c,m,o,l,i,by rw[f,d],j.trans r,g⟩
theorem fF (O:Ord lt){p:Array Nat}{nrem:Nat}(h0:0<nrem)(l:nrem<=p.size):
  ∃o m,run lt (kas_count nrem p)=(m,o)/\1<=m/\m<=nrem/\o.size=p.size/\o.Perm p/\Up lt o m:=by
 obtain⟨a,b,c,d⟩:=uF O p (nrem-1) 1 (by decide) (zy9 O p);unfold kas_count;rw[run_bind];generalize run lt (kas_asc p (nrem-1) 1)=n at a b c d;by_cases r:n=nrem
 ·rw[if_pos (by rw[r];simp)];exact⟨p,n,rfl,a,(zO9 r),rfl,zX7 _,c⟩
 ·rw[if_neg (by simpa using r)];have hd:=d (by lia);by_cases h:n > 1
  ·rw[if_pos h];cases e:lt (p.getD 0 0) (p.getD (n-1) 0)with
   |true=>
    refine⟨p,n,?_,a,by lia,rfl,zX7 _,c⟩;show run lt ((λc=>if c=true then KasT.ret (n,p)else kas_descPart n nrem (kas_rev p 0 n)) (lt (p.getD 0 0) (p.getD (n-1) 0)))=_;rw[e];rfl
   |false=>
    have all:∀k,k<n->Eqv lt (g p k) (g p 0):=λk hk=>⟨c 0 k (zO5 _) hk,O.tr _ _ _ (c k (n-1) (zj0 hk) (zk7 h)) e⟩;have x:Down lt (kas_rev p 0 n) (n+1):=by
     have z:Down lt (kas_rev p 0 n) n:=λi j f q=>by
      rw[uW (jq h0 l b),uW (jq h0 l b),if_pos (⟨(zO5 _),(zP5 f q)⟩),if_pos (⟨(zO5 _),q⟩)];exact O.tr _ _ _ (all _ (by lia)).2 (all _ (zl1 q)).1
     refine z.succ O (zP5 (zO5 _) h) ?_;rw[uW (jq h0 l b),uW (jq h0 l b),if_pos (by lia),if_neg (zn3)];have u:lt (g p (n-1)) (g p n)=false:=O.asy _ _ hd;exact O.tr _ _ _ u (O.tr _ _ _ (all (n-1) (zk7 h)).2 (all _ (by lia)).1)
    obtain⟨o,m,C,B,w,t,y,v⟩:=tw O (p:=kas_rev p 0 n) (n:=n) (nrem:=nrem) (zP5 (zO5 _) h) (by lia) (by rw[xm];exact l) x;refine⟨o,m,?_,B,w,by rw[t,xm],y.trans (yG _ _ _),v⟩;rw[<-C];show run lt ((λc=>if c=true then KasT.ret (n,p)else kas_descPart n nrem (kas_rev p 0 n)) (lt (p.getD 0 0) (p.getD (n-1) 0)))=_;rw[e];rfl
  ·rw[if_neg h];have e1:n=1:=(zW4 (zV2 h) a);subst e1;refine tw O (by decide) (by lia) l ?_;have s:Down lt p 1:=λi j f q=>by
    have e1:i=0:=(zh1 q f);have A:j=0:=(zi0 q);rw[e1,A];exact O.irr _
   exact s.succ O (by decide) (O.asy _ _ hd)
theorem rS (O:Ord lt){p:Array Nat}{k:Nat}(U:Up lt p k):∀(f l r:Nat),r<=l+f->l<=r->r<=k->(∀i,i<l->lt (g p k) (g p i)=false)->(∀i,r<=i->i<k->lt (g p k) (g p i)=true)->
  run lt (kas_place p k f l r)<=k/\(∀i,i<run lt (kas_place p k f l r)->lt (g p k) (g p i)=false)/\(∀i,run lt (kas_place p k f l r)<=i->i<k->lt (g p k) (g p i)=true)
 |0,l,r,n,h,d,ha,hb=>by
  show l<=k/\_;exact⟨(zO0 h d),ha,λi x y=>hb i (by have:l<=i:=x;lia) y⟩
 |f+1,l,r,n,h,d,ha,hb=>by
  by_cases a:l≥r
  ·have b:run lt (kas_place p k (f+1) l r)=l:=by
    show run lt (if l≥r then _ else _)=_;rw[if_pos a];rfl
   rw[b];exact⟨(zO0 h d),ha,λi x y=>hb i (zO0 a x) y⟩
  ·cases e:lt (p.getD k 0) (p.getD ((l+r) / 2) 0)with
   |true=>
    have b:run lt (kas_place p k (f+1) l r)=run lt (kas_place p k f l ((l+r) / 2)):=by
     show run lt (if l≥r then _ else _)=_;rw[if_neg a];show run lt ((λc=>if c=true then kas_place p k f l ((l+r) / 2)else kas_place p k f ((l+r) / 2+1) r) (lt (p.getD k 0) (p.getD ((l+r) / 2) 0)))=_;rw[e];rfl
    rw[b];refine rS O U f l ((l+r) / 2) (by lia) (by lia) (by lia) ha λi x y=>?_;cases e3:lt (g p k) (g p i)with
    |true=>rfl
    |false=>
     have m:lt (g p k) (g p ((l+r) / 2))=false:=O.tr _ _ _ (U ((l+r) / 2) i x y) e3;have j:lt (g p k) (g p ((l+r) / 2))=true:=e;rw[m]at j;cases j
   |false=>
    have b:run lt (kas_place p k (f+1) l r)=run lt (kas_place p k f ((l+r) / 2+1) r):=by
     show run lt (if l≥r then _ else _)=_;rw[if_neg a];show run lt ((λc=>if c=true then kas_place p k f l ((l+r) / 2)else kas_place p k f ((l+r) / 2+1) r) (lt (p.getD k 0) (p.getD ((l+r) / 2) 0)))=_;rw[e];rfl
    rw[b];exact rS O U f ((l+r) / 2+1) r (by lia) (by lia) d (λi hi=>O.tr _ _ _ (U i ((l+r) / 2) (zX5 hi) (by lia)) e) hb
theorem iO (O:Ord lt){p:Array Nat}{k l:Nat}(hk:k<p.size)(m:l<=k)(U:Up lt p k)(ha:∀i,i<l->lt (g p k) (g p i)=false)(hb:∀i,l<=i->i<k->lt (g p k) (g p i)=true):Up lt (bubble p k (k-l)) (k+1):=by
 have gb:∀i,g (bubble p k (k-l)) i=if i=l then g p k else if l<i/\i<=k then g p (i-1)else g p i:=λi=>by
  have h:=getElem?_bubble hk (k-l) (Nat.sub_le _ _) i;have el:k-(k-l)=l:=by lia
  rw[el]at h;by_cases c:i=l
  ·rw[if_pos c]at h ⊢;exact dw h
  ·rw[if_neg c]at h ⊢;by_cases f:l<i/\i<=k
   ·rw[if_pos f]at h ⊢;exact dw h
   ·rw[if_neg f]at h ⊢;exact dw h
 intro i j a b;have gl:g (bubble p k (k-l)) l=g p k:=by rw[gb,if_pos rfl]
 have d:∀i,l<i->i<=k->g (bubble p k (k-l)) i=g p (i-1):=λi x y=>by rw[gb,if_neg (zY4 x),if_pos ⟨x,y⟩]
 have e:∀i,i<l->g (bubble p k (k-l)) i=g p i:=λi x=>by rw[gb,if_neg (zP1 x),if_neg (by lia)]
 rcases Nat.lt_trichotomy i l with hi|hi|hi
 ·rw[e i hi];rcases Nat.lt_trichotomy j l with h|h|h
  ·rw[e j h];exact U _ _ (a) (zN4 h m)
  ·rw[h,gl];exact ha i hi
  ·rw[d j h (zX5 b)];exact U _ _ (by lia) (zo1 b h)
 ·rw[hi,gl];rcases Nat.lt_trichotomy j l with h|h|h
  ·exact(zT2 _ (zN4 h (zO0 (zO9 hi.symm) a))).elim
  ·rw[h,gl];exact O.irr _
  ·rw[d j h (zX5 b)];exact O.asy _ _ (hb (j-1) (zj0 h) (zo1 b h))
 ·rw[d i hi (zX5 (zP5 a b)),d j (zN4 hi a) (zX5 b)];exact U _ _ (by lia) (by lia)
theorem cj (O:Ord lt):∀(f:Nat) (p:Array Nat) (k:Nat),0<k->k+f<=p.size->Up lt p k->(run lt (kas_bin f p k)).size=p.size/\(run lt (kas_bin f p k)).Perm p/\Up lt (run lt (kas_bin f p k)) (k+f)
 |0,p,k,_,_,U=>⟨rfl,zX7 _,U⟩
 |f+1,p,k,hk,hs,U=>by
  obtain⟨a,b,c⟩:=rS O U k 0 k (Nat.le_add_left _ _) (zO5 _) (zN5 _) (λi hi=>(zT2 _ (zP5 (zO5 _) hi)).elim) (λi x y=>(zT2 _ (zN4 y x)).elim);have d:run lt (kas_bin (f+1) p k)=run lt (kas_bin f (bubble p k (k-run lt (kas_place p k k 0 k))) (k+1)):=by
   show run lt ((kas_place p k k 0 k).bind _)=_;rw[run_bind]
  rw[d];obtain⟨x,y,z⟩:=cj O f (bubble p k (k-run lt (kas_place p k k 0 k))) (k+1) (z46 _) (by rw[bubble_size];exact jK hs) (iO O (by lia) a U b c);have e:k+(f+1)=k+1+f:=zH0;rw[e];exact⟨by rw[x,bubble_size],y.trans (bubble_perm _ _ _),z⟩
theorem zb7 (O:Ord lt){n:Nat}(h:0<n):(run lt (kas_sort n)).size=n/\(run lt (kas_sort n)).Perm (List.range n).toArray/\Up lt (run lt (kas_sort n)) n:=by
 obtain⟨p,m,e,a,b,c,d,u⟩:=fF O (p:=(List.range n).toArray) (nrem:=n) h (by simp);unfold kas_sort;rw[run_bind,e];dsimp only;have f:p.size=n:=by rw[c];simp
 by_cases hm:m<n
 ·rw[if_pos hm];have em:max m 1=m:=by lia
  rw[em];obtain⟨x,y,z⟩:=cj O (n-m) p m (by lia) (by lia) u;refine⟨by rw[x,f],y.trans d,?_⟩;have e:m+(n-m)=n:=by lia
  rw[e]at z;exact z
 ·rw[if_neg hm];have e:m=n:=(zW4 b (zV2 hm));subst e;exact⟨f,d,u⟩
end SortA
namespace SortA
open PySem PySem.W PyProof.Rows
def xq {α:Type}(n:Nat)(P:α->Prop):KasT α->Prop
 |.ret a=>P a
 |.ask i j k=>i<n/\j<n/\∀b,xq n P (k b)
theorem xq.bind {α β:Type}{n:Nat}{P:α->Prop}{d:β->Prop}{f:α->KasT β}(e:∀a,P a->xq n d (f a)):∀t:KasT α,xq n P t->xq n d (t.bind f)
 |.ret a,h=>e a h
 |.ask i j k,⟨a,b,c⟩=>⟨a,b,λx=>xq.bind e (k x) (c x)⟩
def Bd (n:Nat)(p:Array Nat):Prop:=∀x∈p,x<n
theorem Bd.get {n:Nat}{p:Array Nat}(h:Bd n p)(hn:0<n)(i:Nat):p.getD i 0<n:=by
 by_cases hi:i<p.size
 ·have e:p.getD i 0=p[i]:=by simp[Array.getD,hi]
  rw[e];exact h _ (Array.getElem_mem hi)
 ·have e:p.getD i 0=0:=by simp[Array.getD,hi]
  rw[e];exact hn
theorem Bd.perm {n:Nat}{p q:Array Nat}(h:Bd n p)(e:q.Perm p):Bd n q:=λx a=>h x (e.mem_iff.mp a)
theorem sT {n:Nat}{p:Array Nat}(B:Bd n p)(hn:0<n):∀f k,xq n (λ_=>True) (kas_asc p f k)
 |0,_=>trivial
 |f+1,k=>⟨B.get hn _,B.get hn _,λb=>by
  cases b with
  |true=>exact trivial
  |false=>exact sT B hn f (k+1)⟩
theorem wY {n:Nat}(hn:0<n):∀f (p:Array Nat) k q,Bd n p->xq n (λr:Array Nat×Nat×Nat=>Bd n r.1) (kas_desc f p k q)
 |0,_,_,_,B=>B
 |f+1,p,k,q,B=>⟨B.get hn _,B.get hn _,λb=>by
  cases b with
  |true=>
   show xq n _ (if q > 0 then _ else _);split
   ·exact wY hn f _ _ _ (B.perm (yG _ _ _))
   ·exact wY hn f _ _ _ B
  |false=>
   refine⟨B.get hn _,B.get hn _,λb=>?_⟩;cases b with
   |true=>exact B
   |false=>exact wY hn f _ _ _ B⟩
theorem sF {n:Nat}{p:Array Nat}(B:Bd n p)(hn:0<n)(m r:Nat):xq n (λr:Nat×Array Nat=>Bd n r.2) (kas_tail3 m r p):=by
 unfold kas_tail3;refine xq.bind (P:=λ_=>True) (λa _=>?_) _ (sT (B.perm (yG _ _ _)) hn _ _);exact B.perm (yG _ _ _)
theorem vv {n:Nat}{p:Array Nat}(B:Bd n p)(hn:0<n)(m r:Nat):xq n (λr:Nat×Array Nat=>Bd n r.2) (kas_descPart m r p):=
 xq.bind (λa ha=>by
  split
  ·exact sF (Bd.perm ha (yG _ _ _)) hn _ _
  ·exact sF ha hn _ _) _ (wY hn _ _ _ _ B)
theorem mN {n:Nat}{p:Array Nat}(B:Bd n p)(hn:0<n)(r:Nat):xq n (λr:Nat×Array Nat=>Bd n r.2) (kas_count r p):=
 xq.bind (λa _=>by
  split
  ·exact B
  ·split
   ·refine⟨B.get hn _,B.get hn _,λb=>?_⟩;cases b with
    |true=>exact B
    |false=>exact vv (B.perm (yG _ _ _)) hn _ _
   ·exact vv B hn _ _) _ (sT B hn _ _)
theorem vO {n:Nat}{p:Array Nat}(B:Bd n p)(hn:0<n)(k:Nat):∀f l r,xq n (λ_=>True) (kas_place p k f l r)
 |0,_,_=>trivial
 |f+1,l,r=>by
  show xq n _ (if l≥r then _ else _);split
  ·exact trivial
  ·refine⟨B.get hn _,B.get hn _,λb=>?_⟩;cases b with
   |true=>exact vO B hn k f _ _
   |false=>exact vO B hn k f _ _
theorem nJ {n:Nat}(hn:0<n):∀f (p:Array Nat) k,Bd n p->xq n (λ_=>True) (kas_bin f p k)
 |0,_,_,_=>trivial
 |f+1,p,k,B=>xq.bind (λl _=>nJ hn f _ _ (B.perm (bubble_perm _ _ _))) _ (vO B hn k _ _ _)
theorem iP {n:Nat}(hn:0<n):xq n (λ_=>True) (kas_sort n):=
 xq.bind (λa ha=>by
  split
  ·exact nJ hn _ _ _ ha
  ·exact trivial) _ (mN (λx b=>by simpa using b) hn n)
theorem wp_run {α:Type}{n:Nat}{P:α->Prop}{cmp:Nat->Nat->(Bool->Shared->Prop)->Shared->Prop}{lt:Nat->Nat->Bool}{Q:α->Shared->Prop}{s:Shared}(d:∀i j C,i<n->j<n->C (lt i j) s->cmp i j C s):
  ∀t:KasT α,xq n P t->Q (run lt t) s->t.kasWp cmp Q s
 |.ret _,_,h=>h
 |.ask i j k,⟨a,b,c⟩,h=>d i j _ a b (wp_run d (k (lt i j)) (c _) h)
def lx (p q:Int×Int):Bool:=decide (p.1<q.1\/(p.1=q.1/\p.2<q.2))
def at2 (ps:List (Int×Int))(i:Nat):Int×Int:=ps.getD i (0,0)
theorem zt2 (ps:List (Int×Int)):Ord λi j=>lx (at2 ps i) (at2 ps j) where
 irr:=λa=>by simp[lx]
 tr:=λa b c=>by
  unfold lx;generalize at2 ps a=x;generalize at2 ps b=y;generalize at2 ps c=z;simp only[zX3]
  lia
 asy:=λa b=>by
  unfold lx;generalize at2 ps a=x;generalize at2 ps b=y;simp only[zX3,zZ2]
  lia
theorem kE (ps:List (Int×Int))(h:0<ps.length):∃d:List Nat,run (λi j=>lx (at2 ps i) (at2 ps j)) (kas_sort ps.length)=d.toArray/\d.length=ps.length/\(∀i∈d,i<ps.length)/\(d.map (at2 ps)).Perm ps/\(d.map (at2 ps)).Pairwise (λp q=>lx q p=false):=by
 obtain⟨a,b,c⟩:=zb7 (zt2 ps) h;generalize run (λi j=>lx (at2 ps i) (at2 ps j)) (kas_sort ps.length)=r at a b c;have e:(List.range ps.length).map (at2 ps)=ps:=by
  apply z74
  ·simp
  ·intro i k n;simp[at2,n]
 have pl:r.toList.Perm (List.range ps.length):=by
  have:=z53.mp b;simpa using this
 refine⟨r.toList,by simp,by simpa using a,λi hi=>by simpa using pl.mem_iff.mp hi,?_,?_⟩
 ·have:=pl.map (at2 ps);rw[e]at this;exact this
 ·rw[List.pairwise_map,zV4];intro i j hi o f;have k:j<r.size:=by simpa using o
  have:=c i j (zR4 f) (by rw[<-a];exact k);have l:g r i=r.toList[i]:=by
   have:i<r.size:=by lia
   simp[g,Array.getD,this]
  have m:g r j=r.toList[j]:=by simp[g,Array.getD,k]
  rw[l,m]at this;exact this
end SortA
namespace L2
open PySem PySem.Spec PySem.Calls PySem.W PyProof.Rows SortA
section
variable {prog:Program}{w:World}{A:Around}{E:Value->Shared->Prop}{s:Shared}
def Prs (h:Heap):List Value->List (Int×Int)->Prop
 |[],[]=>True
 |v::vs,p::ps=>(∃a o t u n,v=.ref a/\h.get? a=some o/\o.cls=.type "tuple"/\o.data=.seq #[.int p.1 t,.int p.2 u] n)/\Prs h vs ps
 |_,_=>False
theorem Prs.len {h:Heap}:∀{vs:List Value}{ps:List (Int×Int)},Prs h vs ps->vs.length=ps.length
 |[],[],_=>rfl
 |[],_::_,h=>h.elim
 |_::_,[],h=>h.elim
 |_::_,_::_,⟨_,h⟩=>by simp[Prs.len h]
theorem Prs.at {h:Heap}:∀{vs:List Value}{ps:List (Int×Int)} (i:Nat),Prs h vs ps->i<ps.length->∃a o t u n,vs.getD i Value.none=.ref a/\h.get? a=some o/\o.cls=.type "tuple"/\o.data=.seq #[.int (at2 ps i).1 t,.int (at2 ps i).2 u] n
 |[],[],_,_,hi=>by simp at hi
 |[],_::_,_,h,_=>h.elim
 |_::_,[],_,h,_=>h.elim
 |_::_,_::_,0,⟨x,_⟩,_=>x
 |_::_,_::_,i+1,⟨_,r⟩,hi=>by
  obtain⟨a,o,t,u,n,e,q⟩:=Prs.at i r (by simpa using hi);exact⟨a,o,t,u,n,by simpa using e,q⟩
theorem Prs.tups {h:Heap}:∀{vs:List Value}{ps:List (Int×Int)},Prs h vs ps->∃fs:List Value,KatTups h vs fs/\fs.length=ps.length/\∀v∈fs,∃i t,v=.int i t
 |[],[],_=>⟨[],trivial,rfl,λ_ h=>by simp at h⟩
 |[],_::_,h=>h.elim
 |_::_,[],h=>h.elim
 |_::_,p::_,⟨⟨a,o,t,u,n,e,c,d,hd⟩,r⟩=>by
  obtain⟨fs,x,y,z⟩:=Prs.tups r;subst e;refine⟨.int p.1 t::fs,KatTups.cons c d hd (by simp) x,by simp[y],λv b=>?_⟩;rcases zN6.mp b with rfl|b
  ·exact⟨_,_,rfl⟩
  ·exact z v b
theorem af {a b:Addr}{f ob:Obj}{p q:Int×Int}{t u t' g:Tok}{n k:Nat}{Q:Bool->Shared->Prop}(ha:s.heap.get? a=some f)(i:f.data=.seq #[.int p.1 t,.int p.2 u] n)(hb:s.heap.get? b=some ob)(db:ob.data=.seq #[.int q.1 t',.int q.2 g] k)
  (h:Q (lx p q) s):wpAny (model prog w) A (keyLt' (tuples' true) (.ref a) (.ref b)) Q E s:=by
 refine kat_lt ha i hb db (kat_cons (wpAny_eqBool_int ?_));by_cases e:p.1=q.1
 ·have e1:(p.1 == q.1)=true:=by simp[e]
  rw[e1];refine kat_yes (kat_cons (wpAny_eqBool_int ?_));by_cases d:p.2=q.2
  ·have c:(p.2 == q.2)=true:=by simp[d]
   rw[c];refine kat_yes (kat_nil ?_);have:lx p q=false:=by simp[lx,e,d]
   rw[this]at h;simpa using h
  ·have c:(p.2 == q.2)=false:=by simp[d]
   rw[c];refine kat_no (kat_one _ _ (wpAny_lt_int ?_));have:lx p q=decide (p.2<q.2):=by simp[lx,e]
   rw[this]at h;exact h
 ·have e1:(p.1 == q.1)=false:=by simp[e]
  rw[e1];refine kat_no (oneLt_int ?_);have:lx p q=decide (p.1<q.1):=by simp[lx,e]
  rw[this]at h;exact h
theorem lQ {vs:List Value}{ps:List (Int×Int)}(d:2<=vs.length)(P:Prs s.heap vs ps){R:Array Nat->Shared->Prop}(hr:∀c:List Nat,c.length=ps.length->(∀i∈c,i<ps.length)->(c.map (at2 ps)).Perm ps->(c.map (at2 ps)).Pairwise (λp q=>lx q p=false)->R c.toArray s):
  wpAny (model prog w) A (keyKind' vs.toArray) (λr s'=>(kas_sort vs.length).kasWp (kas_ask prog w A r vs) R s') (λ_ _=>False) s:=by
 obtain⟨fs,t,F,hi⟩:=P.tups;have hlen:=P.len;refine kat_kind (T:=.type "int") t (by lia) (λv h=>?_) (by decide) ?_
 ·obtain⟨i,t,rfl⟩:=hi v h;exact .now
 ·have e:(Value.type "int" != Value.type "tuple")=true:=by decide
  rw[e];obtain⟨c,e1,l,k,m,y⟩:=kE ps (zj6 d hlen);rw[hlen];refine wp_run (n:=ps.length) (P:=λ_=>True) (lt:=λi j=>lx (at2 ps i) (at2 ps j)) (λi j C hi x z=>?_) _ (iP (zj6 d hlen)) ?_
  ·obtain⟨a,o,t,u,n,f,ha,_,B⟩:=P.at i hi;obtain⟨b,o',t',D,G,g,hb,_,db⟩:=P.at j x;unfold kas_ask;rw[f,g];exact af ha B hb db z
  ·rw[e1];exact hr c l k m y
def Srt (vs:List Value)(ps:List (Int×Int))(out:List Value):Prop:=
 ∃a:List Nat,out=a.map (λi=>vs.getD i Value.none)/\a.length=ps.length/\(∀i∈a,i<ps.length)/\(a.map (at2 ps)).Perm ps/\(a.map (at2 ps)).Pairwise (λp q=>lx q p=false)
theorem Srt.len {vs:List Value}{ps:List (Int×Int)}{out:List Value}(h:Srt vs ps out):out.length=ps.length:=by
 obtain⟨a,rfl,e,_⟩:=h;simp[e]
end
inductive PrV (H:Hp):List V->List (Int×Int)->Prop where
 |nil:PrV H [] []
 |cons {a:Addr}{xs:List V}{p:Int×Int}{ps:List (Int×Int)}:H a=some (.tup [.int p.1,.int p.2])->PrV H xs ps->PrV H (.ref a::xs) (p::ps)
section
variable {X:Cx}{pins:List (Addr×Obj)}{σ:St}{H H':Hp}{s:Shared}
theorem PrV.len {xs:List V}{ps:List (Int×Int)}(h:PrV H xs ps):xs.length=ps.length:=by
 induction h with
 |nil=>rfl
 |cons _ _ a=>simp[a]
theorem PrV.keep {xs:List V}{ps:List (Int×Int)}(k:∀a p q,H a=some (.tup [.int p,.int q])->H' a=some (.tup [.int p,.int q]))(h:PrV H xs ps):PrV H' xs ps:=by
 induction h with
 |nil=>exact .nil
 |cons e _ b=>exact .cons (k _ _ _ e) b
theorem PrV.app {xs ys:List V}{ps a:List (Int×Int)}(h:PrV H xs ps)(h':PrV H ys a):PrV H (xs++ys) (ps++a):=by
 induction h with
 |nil=>exact h'
 |cons e _ b=>exact .cons e b
theorem PrV.prs (I:Inv X pins σ H s):∀{xs:List V}{ps:List (Int×Int)}{us:List Value},PrV H xs ps->Vals xs us->Prs s.heap us ps:=by
 intro xs ps us h
 induction h generalizing us with
 |nil=>intro r;cases r;exact trivial
 |@cons a xs p ps e _ ih=>
  intro r;cases r with
  |cons r d=>
   cases(show _=Value.ref a from r);obtain⟨_,its,b,o,c,f,n,hd⟩:=(show zT X.prog X.w H s.heap a (.tup [.int p.1,.int p.2])from I.hok a _ e);obtain⟨u,v,rfl,⟨t,rfl⟩,⟨t',rfl⟩⟩:=Vals.two b;exact⟨⟨a,o,t,t',n,rfl,c,f,hd⟩,ih d⟩
theorem nQ {xs:List V}{us:List Value}(r:Vals xs us):∀i x,xs[i]?=some x->RelV x (us.getD i Value.none):=by
 induction r with
 |nil=>intro i x h;simp at h
 |cons e _ a=>
  intro i x h;cases i with
  |zero=>have h':=zR0 (by simpa using h);subst h';exact e
  |succ i=>exact a i x (by simpa using h)
end
end L2
namespace Days
end Days
namespace L2
open PySem PySem.Spec PyProof.Rows Days
section
variable {X:Cx}{α:Ev}{e a b c tg:Expr}{pos p:Pos}{Q:PyData->Prop}{E:yo}{sts:List Stmt}
theorem kL {pat:Pat}(hg:PG X tg (qh X.K pat))(h:EvD X α e λd=>∃f,pat.bind d α=some f/\SvS X f sts E)
  (i:swapsWithSole [tg] e pos.line X.env=pure false:=by rfl) (hw:swappedStores [tg] e X.env=pure none:=by rfl) (l:(assignEach [tg] X.env).map (·.2)=[assign tg X.env]:=by rfl):SvS X α (.Assign [tg] e pos::sts) E:=λF σ H D m r=>by
 refine⟨_,zy (su zf hg i hw l) zG,?_⟩;refine h F σ H _ m λd v H1 o t1 s n=>?_;obtain⟨f,j,q⟩:=o;exact tZ j (m.kz s t1) n λg k=>q F g H1 D k r
theorem gQ {op f:CmpOp}{g g':Int->Int->Bool}{i j k:Int}{Q:Bool->Prop}(D:OpR X (compareOp op) (rI0 λi j=>.bl (g i j)))(l:OpR X (compareOp f) (rI0 λi j=>.bl (g' i j)))(hm:lastMarks [op,f] [b,c]=false)
  (ha:∀Q:PyData->Prop,Q (.int i)->EvD X α a Q) (hb:∀Q:PyData->Prop,Q (.int j)->EvD X α b Q) (v:∀Q:PyData->Prop,Q (.int k)->EvD X α c Q) (h:Q (g i j&&g' j k)):EvT X α (.Compare a [op,f] [b,c] pos) Q:=λF σ H R m q=>by
 refine⟨_,nB D l zf zf zf hm,?_⟩;refine ha (λd=>d=.int i) rfl F σ H _ m λx L H1 u t1 o t=>?_;have m1:=m.kz o t1;refine hb (λd=>d=.int j) rfl F σ H1 _ m1 λy J r A s n I=>?_;subst u A;cases t.int_inv;cases I.int_inv;have m2:=m1.kz n s;refine⟨i,j,rfl,rfl,_,rfl,?_⟩;cases hg:g i j with
 |true=>
  refine sQ ?_;refine v (λd=>d=.int k) rfl F σ r _ m2 λz K w G t3 B C=>?_;subst G;cases C.int_inv;rw[hg,Bool.true_and]at h;exact⟨j,k,rfl,rfl,_,rfl,q _ w h t3 ((o.trans n).trans B)⟩
 |false=>
  rw[hg,z43]at h;exact rh ⟨_,rfl,q _ r h s (o.trans n)⟩
end
theorem cY (ds:List PyData):ds.filter (λ_=>true)=ds:=z90.mpr λ_ _=>rfl
section
variable {X:Cx}{α:Ev}{tg:Expr}{pos p:Pos}{E:yo}{sts body:List Stmt}
end
def isNone :PyData->Bool
 |.none=>true
 |_=>false
abbrev eqS (d:PyData)(s:Str):Bool:=PyData.eqv d (.str s)
abbrev sV :PyData->Bool:=yS 0 1000000000000
def rR :PyData->Bool
 |.tuple [.int m,f]=>yS 2 14 (.int m)&&yS 1 (m-1) f
 |_=>false
def zQ (w v:PyData):Bool:=
 if eqS w "price"=true then isNone v||sV v
 else if(eqS w "come"||eqS w "go")=true then isBool v
 else if(eqS w "least"||eqS w "most")=true then yS 1 14 v
 else if eqS w "deal"=true then isNone v||rR v
 else eqS w "fee"&&sV v
def yi :PyData->Bool
 |.tuple [w,a,b,v]=>wJ (.tuple [a,b])&&zQ w v
 |_=>false
abbrev words :List Str:=["price","come","go","least","most","deal","fee"]
def zC4 (x y z:V):List (Str×V):=xA "worth" z (xA "last" y (xA "first" x []))
structure Cs where
 price:Addr
 come:Addr
 go:Addr
 least:Addr
 most:Addr
 deal:Addr
 fee:Addr
def Cs.of (c:Cs)(w:Str):Addr:=
 if w="price" then c.price else if w="come" then c.come else if w="go" then c.go else if w="least" then c.least else if w="most" then c.most else if w="deal" then c.deal else c.fee
structure tK (K:PySem.W.Frag)(C fI fT fE fW:Addr):Prop where
 cl:Cls K C
 nf:yv K C "first"
 nl:yv K C "last"
 nw:yv K C "worth"
 makes:Mk K C fI
 told:Meth K C "told" fT
 tells:Meth K C "tells" fE
 word:Meth K C "word" fW
theorem xY {d:PyData}{s:Str}(h:eqS d s=true):d=.str s:=by
 cases d with
 |str x=>
  have h':(x == s)=true:=h;rw[eq_of_beq h']
 |_=>simp[PyData.eqv]at h
theorem mi {w v:PyData}(h:zQ w v=true):∃s∈words,w=.str s:=by
 unfold zQ at h;split at h
 ·rename_i e;exact⟨"price",by simp[words],xY e⟩
 ·split at h
  ·rename_i e;rcases(z38 _ _).mp e with e|e
   ·exact⟨"come",by simp[words],xY e⟩
   ·exact⟨"go",by simp[words],xY e⟩
  ·split at h
   ·rename_i e;rcases(z38 _ _).mp e with e|e
    ·exact⟨"least",by simp[words],xY e⟩
    ·exact⟨"most",by simp[words],xY e⟩
   ·split at h
    ·rename_i e;exact⟨"deal",by simp[words],xY e⟩
    ·rw[zR5]at h;exact⟨"fee",by simp[words],xY h.1⟩
theorem tu {d:PyData}(h:yi d=true):∃(s:Str) (a b v:PyData),s∈words/\d=.tuple [.str s,a,b,v]:=by
 unfold yi at h;split at h
 ·rename_i w a b v;rw[zR5]at h;obtain⟨s,c,rfl⟩:=mi h.2;exact⟨s,a,b,v,c,rfl⟩
 ·cases h
section
variable {X:Cx}
end
abbrev wC (C:Addr)(fs:List (PyData×PyData)):PyData:=.dict ((.int (C:Nat),.none)::fs)
def sh :List (PyData×PyData)->Str->Option PyData
 |[],_=>none
 |(.str g,d)::r,f=>if f=g then some d else sh r f
 |_::r,f=>sh r f
theorem AVf.get {H:Hp}:∀{fs:List (Str×V)}{ds:List (PyData×PyData)}{f:Str}{d:PyData},AVf H fs ds->sh ds f=some d->∃v,fs.lookup f=some v/\AV H v d
 |_,_,f,d,.nil,e=>by cases e
 |_,_,f,d,.cons (f:=g) h r,e=>by
  rw[zT4];unfold sh at e;by_cases z:f=g
  ·subst z;rw[if_pos rfl]at e;cases e;exact⟨_,by simp,h⟩
  ·rw[if_neg z]at e;have a:(f == g)=false:=by simpa using z
   rw[a];exact AVf.get r e
theorem AVf.none {H:Hp}{fs:List (Str×V)}{ds:List (PyData×PyData)}{f:Str}(h:AVf H fs ds)(e:sh ds f=Option.none):fs.lookup f=Option.none:=by
 induction h using AVf.ind with
 |nil=>rfl
 |@cons g _ _ _ _ h r ih=>
  rw[zT4];unfold sh at e;by_cases z:f=g
  ·subst z;rw[if_pos rfl]at e;cases e
  ·rw[if_neg z]at e;have a:(f == g)=false:=by simpa using z
   rw[a];exact ih e
theorem AV.ins_inv {H:Hp}{v:V}{C:Addr}{ds:List (PyData×PyData)}(h:AV H v (wC C ds)):∃a dx fs,v=.ref a/\H a=some (.ins C dx fs)/\AVf H fs ds:=by
 generalize e:wC C ds=d at h;cases h with
 |@ins a b dx fs ds' h1 h2=>
  injection e with e;injection e with e1 f;have g:(C:Int)=(b:Int):=by
   have:=congrArg Prod.fst e1;injection this
  have c:C=b:=Int.ofNat.inj g;subst c f;exact⟨a,dx,fs,rfl,h1,h2⟩
 |_=>cases e
section
variable {X:Cx}{α:Ev}{o e:Expr}{es:List Expr}{pos apos p:Pos}{Q:PyData->Prop}{C:Addr}{f m:Str}
theorem wN (c:Cls X.K C)(na:yv X.K C f)(h:EvD X α o λx=>∃fs d,x=wC C fs/\sh fs f=some d/\Q d)(hb:attributeBase o f X.env (eval o X.env)=eval o X.env:=by rfl):EvD X α (.Attribute o f pos) Q:=λF σ H R m k=>by
 refine⟨_,zv1 zf hb,?_⟩;refine h F σ H _ m λx s H1 n t1 r j=>?_;obtain⟨fs,d,rfl,hf,q⟩:=n;obtain⟨a,dx,b,rfl,i,l⟩:=j.ins_inv;obtain⟨v,g,av⟩:=l.get hf;exact⟨a,C,dx,b,v,rfl,(zi i).2,c,na,g,k d v H1 q t1 r av⟩
structure xt (P:Program)(w:World)(K:PySem.W.Frag)(mg:Str->Option Value)(base:Heap)(C:Addr)(m:Str)(k:Nat)(φ:List A->(A->Prop)->Prop):Prop where
 ex:∃f fd ps,Cls K C/\Meth K C m f/\Binds K fd ps []/\yK P w K mg base CX0 k f fd ps (spA φ)
theorem vf {k:Nat}{φ:List A->(A->Prop)->Prop}{pl:Sem Bool}(r:xt X.prog X.w X.K X.mg X.base C m k φ)(hr:zN k X.A)(h:EvD X α o λx=>∃fs,x=wC C fs/\sh fs m=none/\EvA X α (e::es) λas=>φ (.dat (wC C fs)::as) λa=>Q a.d)
  (b:starEach (e::es) X.env=(false,eval e X.env)::starEach es X.env:=by rfl) (hpl:(backTo pos (starEach es X.env)).any (·.1)=false:=by rfl)
  (D:eval (.Call (.Attribute o m apos) (e::es) [] pos) X.env=(do
   let ov <-eval o X.env
   standAt apos.atName
   let(f,first) <-holding [ov] (getMethod ov m pl)
   callWith pos f first (backTo pos (starEach (e::es) X.env)) (backToKw pos (keywordEach [] X.env))):=by rfl):EvD X α (.Call (.Attribute o m apos) (e::es) [] pos) Q:=λF σ H R j n=>by
 obtain⟨f,fd,ps,c,hm,hb,G⟩:=r.ex;refine⟨_,aM zf c hm G hr hb .nil nF yR b hpl D,?_⟩;refine h F σ H _ j λx P H1 y t1 l i=>?_;obtain⟨fs,rfl,hf,q⟩:=y;have m1:=j.kz l t1;obtain⟨a,dx,I,rfl,u,M⟩:=i.ins_inv;refine⟨a,dx,I,rfl,(zi u).2,M.none hf,?_⟩;refine q F σ H1 _ m1 λas vs O B J g L=>?_;have m2:=m1.kz g J;have t:=xW (vs:=.ref a::vs) (as:=.dat (wC C fs)::as) (R:=R) (E:=E0) m2 (.cons (i.same (g.gz m1.tp)) L) B λz v H' N s=>by
  obtain⟨g1,g2,g3⟩:=s.back m2;exact n _ v H' N g1 ((l.trans g).trans g2) g3
 exact t
theorem rp {k:Nat}{φ:List A->(A->Prop)->Prop}{pl:Sem Bool}(l:xt X.prog X.w X.K X.mg X.base C m k φ)(hr:zN k X.A)(h:EvD X α o λx=>∃fs,x=wC C fs/\sh fs m=none/\φ [.dat (wC C fs)] λa=>Q a.d)
  (u:eval (.Call (.Attribute o m apos) [] [] pos) X.env=(do
   let ov <-eval o X.env
   standAt apos.atName
   let(f,first) <-holding [ov] (getMethod ov m pl)
   callWith pos f first (backTo pos (starEach [] X.env)) (backToKw pos (keywordEach [] X.env))):=by rfl):EvD X α (.Call (.Attribute o m apos) [] [] pos) Q:=λF σ H R g j=>by
 obtain⟨f,fd,ps,c,hm,hb,G⟩:=l.ex;refine⟨_,dJ zf c hm G hr hb .nil nF u,?_⟩;refine h F σ H _ g λx I H1 t t1 i b=>?_;obtain⟨fs,rfl,hf,q⟩:=t;have m1:=g.kz i t1;obtain⟨a,dx,y,rfl,s,B⟩:=b.ins_inv;refine⟨a,dx,y,rfl,(zi s).2,B.none hf,?_⟩;have r:=xW (vs:=[.ref a]) (as:=[.dat (wC C fs)]) (R:=R) (E:=E0) m1 (.cons b .nil) q λz v H' D n=>by
  obtain⟨g1,g2,g3⟩:=n.back m1;exact j _ v H' D g1 (i.trans g2) g3
 exact r
def zc0 (F:Fr)(v:V)(H':Hp)(d:PyData):Prop:=zE F H'/\Kz F F.H0 H'/\AV (sub (λx=>¬F.O0 x/\∀xs,F.H0 x≠some (.lst xs)) H') v d
def EvN (X:Cx)(α:Ev)(e:Expr)(Q:PyData->Prop):Prop:=∀(F:Fr) (σ:St) (H:Hp) (R:VK),M F α σ H->(∀d v H',Q d->zE F H'->Kz F H H'->AV (sub (λx=>¬Ow F α σ x/\∀xs,H x≠some (.lst xs)) H') v d->R v H')->vP X e σ H R
theorem EvN.d (h:EvN X α e Q):EvD X α e Q:=λF σ H R m k=>h F σ H R m λd v H' q t z r=>k d v H' q t z (r.same (zr λa o h e=>⟨h.1,e⟩))
def spI (C:Addr)(φ:List A->(A->Prop)->Prop):Sp:=λvs H b _=>∃(F:Fr) (as:List A) (Q:A->Prop) (x dx:Addr) (a:List V) (H1:Hp),vs=.ref x::a/\H1 x=none/\H1 dx=none/\dx≠x/\H=upd (upd H1 dx (.own x)) x (.ins C dx [])/\
 F.H0=H1/\zE F H1/\(∀y,F.O0 y->∃u,H1 y=some u/\wM u)/\yf F (sub (λy=>¬F.O0 y) H1) a as/\φ as Q/\∀d H',Q (.dat d)->zc0 F (.ref x) H' d->b .non H'
structure uI (P:Program)(w:World)(K:PySem.W.Frag)(mg:Str->Option Value)(base:Heap)(x:Str)(k:Nat)(dvs:List V)(φ:List A->(A->Prop)->Prop):Prop where
 ex:∃C f fd ps ds,mg x=some (.ref C)/\Mk K C f/\Binds K fd ps ds/\Vals dvs ds/\yK P w K mg base CX0 k f fd ps (spI C φ)
theorem kr {F:Fr}{σ:St}{H:Hp}{vs:List V}{as:List A}{b:A->Prop}{R:VK}{φ:List A->(A->Prop)->Prop}(m:M F α σ H)(c:yf F (Gz F α σ H) vs as)(a:φ as b)
  (h:∀d v H',b (.dat d)->zc0 ⟨H,Ow F α σ,F.tp⟩ v H' d->R v H') {E:XK} (x dx:Addr) (j:H x=none) (hdx:H dx=none) (hne:dx≠x):spI C φ (.ref x::vs) (upd (upd H dx (.own x)) x (.ins C dx [])) (λv g=>v=.non/\R (.ref x) g) E:=by
 refine⟨⟨H,Ow F α σ,F.tp⟩,as,b,x,dx,vs,H,rfl,j,hdx,hne,rfl,rfl,?_,?_,?_,a,λd H' k i=>⟨rfl,h d _ H' k i⟩⟩
 ·exact m.tp.to rfl λ_ z=>.inl z
 ·exact λy z=>m.owEx z
 ·exact yf.to (F:=F) (F':=⟨H,Ow F α σ,F.tp⟩) (λ_ _ e=>e) rfl c
theorem zc0.back {F:Fr}{σ:St}{H H1 H':Hp}{v:V}{d:PyData}(m:M F α σ H)(b:Kz F H H1)(h:zc0 ⟨H1,Ow F α σ,F.tp⟩ v H' d):zE F H'/\Kz F H1 H'/\AV (sub (λx=>¬Ow F α σ x/\∀xs,H x≠some (.lst xs)) H') v d:=by
 obtain⟨t,kz,r⟩:=h;refine⟨m.tp.re t rfl,kz,r.same (zr λa o h e=>⟨⟨h.1,λxs z=>h.2 xs (b _ _ z (m.tp.nt (ow0 h.1)))⟩,e⟩)⟩
theorem zb1 {k:Nat}{φ:List A->(A->Prop)->Prop}{x:Str}(i:uI X.prog X.w X.K X.mg X.base x k [] φ)(hr:zN (k+1) X.A)(hg:Gl X x)(h:EvA X α (e::es) λas=>φ as λa=>Q a.d)
  (b:(x == ("__debug__":Str))=false:=by decide) (he:starEach (e::es) X.env=(false,eval e X.env)::starEach es X.env:=by rfl) (hpl:(backTo pos (starEach es X.env)).any (·.1)=false:=by rfl):EvN X α (.Call (.Name x p) (e::es) [] pos) Q:=λF σ H R m g=>by
 obtain⟨C,f,fd,ps,ds,hm,hk,hb,hd,G⟩:=i.ex;cases hd;refine⟨_,ai hk G hr hg hm hb .nil nF yR b he hpl,?_⟩;refine h F σ H _ m λas vs H1 n t1 c l=>?_;have m1:=m.kz c t1;intro y dx hy hdx hne;rw[zU0];refine kr m1 l n (λd v H' q j=>?_) y dx hy hdx hne;obtain⟨g1,g2,g3⟩:=j.back m c;exact g d v H' q g1 (c.trans g2) g3
end
structure zv4 (K:PySem.W.Frag)(x qual:Str)(st:Stmt)(dV:Value)(f:Addr)(fd:FuncData):Prop where
 ex:∃(oc:Value) (od:Option Addr) (kV doc pm:Value) (an:Option Addr) (cdv ct:Value) (osl:Array (Option Value)),
  fd=PySem.W.fnOf x qual (zP st) (zv st) (zg st) dV kV doc pm an cdv ct/\K.lookup f=some ⟨oc,od,.func fd,osl⟩/\PySem.W.codeIn K cdv qual=true
 kp:PySem.W.keepIn K (.ref f)=true
theorem zd5 {K:PySem.W.Frag}{x qual:Str}{st:Stmt}{f:Addr}{oc:Value}{od an:Option Addr}{osl:Array (Option Value)}{dV kV doc pm cdv ct:Value}(l:K.lookup f=some ⟨oc,od,.func (PySem.W.fnOf x qual (zP st) (zv st) (zg st) dV kV doc pm an cdv ct),osl⟩)
  (c:PySem.W.codeIn K cdv qual=true) (k:PySem.W.keepIn K (.ref f)=true):zv4 K x qual st dV f (PySem.W.fnOf x qual (zP st) (zv st) (zg st) dV kV doc pm an cdv ct):=⟨⟨oc,od,kV,doc,pm,an,cdv,ct,osl,rfl,l,c⟩,k⟩
section
variable {P:Program}{w:World}{K:PySem.W.Frag}{mg:Str->Option Value}{base:Heap}
theorem zF6 {qual:Str}{st:Stmt}{f C:Addr}{dV:Value}{fd:FuncData}{N:List Str}{x:Str}{k:Nat}{φ:List A->(A->Prop)->Prop}{fl:Str}{e:Expr}{p1 p2 p3:Pos}(G:zv4 K "__init__" qual st dV f fd)(S:zW ("self"::x::N) ["self",x] (zg st))(c:Cls K C)(na:yv K C fl)
  (hb:zv st=[.Assign [.Attribute (.Name "self" p1) fl p2] e p3]) (hlen:∀as Q,φ as Q->as.length=1)
  (R:∀(cdv:Value) (J:Around) (outer:List Env) (s:Shared) (H:Hp) (E:XK) (as:List A) (Q:A->Prop),zN k (J.deeper (envOfC qual (zg st) s.heap.objs.size f cdv))->φ as Q->
   EvL (wx CX0 P w K mg base ("self"::x::N) qual (zg st) f cdv J outer s H E).nox (none::as.map some++List.replicate N.length none) e λds=>noLs ds=true/\Q (.dat (wC C [(.str fl,.list ds)])))
  (a7:∀(cdv:Value) (J:Around) (outer:List Env) (s:Shared) (H:Hp) (E:XK),swapsWith e (some (.Attribute (.Name "self" p1) fl p2)) p3.line (wx CX0 P w K mg base ("self"::x::N) qual (zg st) f cdv J outer s H E).nox.env=pure false)
  (hv:Vis (zg st) "self"):yK P w K mg base CX0 (k+1) f fd ["self",x] (spI C φ):=by
 obtain⟨oc,od,kV,doc,pm,an,cdv,ct,osl,rfl,lk,a4⟩:=G.ex;refine eQ lk a4 S (λvs H Q E h=>?_) λJ outer s H vs Qc E hr h=>?_
 ·obtain⟨F,as,Q',y,dx,m,H1,rfl,_,_,_,_,_,_,_,U,D,_⟩:=h;rw[zQ2,U.length,hlen as _ D];rfl
 ·obtain⟨F,as,Q',y,dx,m,H1,rfl,hy,hdx,hne,rfl,rfl,t,o,U,D,kk⟩:=h;have hl:=U.length;have a9:=hlen as _ D;rw[hb];refine⟨_,(show PSs _ _ _ from(tX (pe (X:=(wx CX0 P w K mg base ("self"::x::N) qual (zg st) f cdv J outer s (upd (upd F.H0 dx (.own y)) y (.ins C dx [])) E).nox) (yw (i:=0) rfl hv) zf (a7 cdv J outer s _ E))).nox),?_⟩
  let F2:Fr:=⟨F.H0,λz=>F.O0 z\/z=y\/z=dx,F.tp⟩
  have s1:zt F.H0 (upd (upd F.H0 dx (.own y)) y (.ins C dx [])):=λa u q=>by rw[zj (zo q hy),zj (zo q hdx)];exact q
  have O:¬F.O0 y:=λz=>by obtain⟨u,B,_⟩:=o y z;rw[hy]at B;cases B
  have b0:¬F.O0 dx:=λz=>by obtain⟨u,B,_⟩:=o dx z;rw[hdx]at B;cases B
  have t2:zE F2 (upd (upd F.H0 dx (.own y)) y (.ins C dx [])):=(t.same s1).to rfl λ_ z=>.inl z
  -- the names of the body
  have g:∀{i:Nat} {a:A},(none::as.map some++List.replicate N.length none:Ev)[i]?=some (some a)->∃j,i=j+1/\as[j]?=some a:=λ{i a} h=>by
   cases i with
   |zero=>simp at h
   |succ j=>
    refine⟨j,rfl,?_⟩;have h':(as.map some++List.replicate N.length none:Ev)[j]?=some (some a):=by simpa using h
    rcases zS6 j as.length with z|z
    ·rw[zT7 (by rw[zN0];exact z),zO8,zQ0]at h';obtain⟨b,Y,T⟩:=h';cases T;exact Y
    ·rw[zW0 (by rw[zN0];exact z),zV9]at h';split at h'<;>cases h'
  have at':∀{vs:List V} {as:List A} {i:Nat} {a:A},yf F (sub (λx=>¬F.O0 x) F.H0) vs as->as[i]?=some a->∃v,vs[i]?=some v/\iY F (sub (λx=>¬F.O0 x) F.H0) v a:=by
   intro vs as i a h
   induction h generalizing i with
   |nil=>intro e;simp at e
   |cons h r ih=>
    intro e;cases i with
    |zero=>simp at e;subst e;exact⟨_,rfl,h⟩
    |succ i=>obtain⟨v,Y,T⟩:=ih (by simpa using e);exact⟨v,by simpa using Y,T⟩
  have gv:∀{j:Nat} {v:V},m[j]?=some v->(L2.start ("self"::x::N) (.ref y::m))[j+1]?=some (some v):=λ{j v} h=>by
   have hj:j<m.length:=(zN8.mp h).1;unfold L2.start;rw[zT7 (by rw[zN0,zQ2];exact Nat.add_lt_add_right hj _),zO8,z65,h];rfl
  have no:∀(i:Nat) a,(none::as.map some++List.replicate N.length none:Ev)[i]?=some (some a)->(∃d,a=.dat d)\/a=.tape:=λi a z=>by
   obtain⟨j,_,hj⟩:=g z;obtain⟨v,_,h⟩:=at' U hj;cases a with
   |dat d=>exact .inl ⟨d,rfl⟩
   |tape=>exact .inr rfl
   |_=>exact h.elim
  have gs:zt (sub (λx=>¬F.O0 x) F.H0) (Gz F2 (none::as.map some++List.replicate N.length none) (L2.start ("self"::x::N) (.ref y::m)) (upd (upd F.H0 dx (.own y)) y (.ins C dx []))):=λa u q=>by
   obtain⟨z1,I⟩:=zi q;refine zF ?_ (s1 _ _ I);rintro((z|z|z)|⟨i,b,s,e,_,f⟩)
   ·exact z1 z
   ·rw[z,hy]at I;cases I
   ·rw[z,hdx]at I;cases I
   ·rcases no i b e with⟨d,rfl⟩|rfl
    ·exact f.elim
    ·exact f.elim
  have m2:M F2 (none::as.map some++List.replicate N.length none) (L2.start ("self"::x::N) (.ref y::m)) (upd (upd F.H0 dx (.own y)) y (.ins C dx [])):=by
   refine⟨by unfold L2.start;simp[hl,a9],λi a s e1 e2=>?_,λi j a b s t x e1 _ _ _ f=>?_,λi r q z=>(by rcases no i _ z with⟨d,w⟩|w<;>cases w),t2,λz u h _=>s1 z u h,λz hz=>?_⟩
   ·obtain⟨j,rfl,hj⟩:=g e1;obtain⟨v,Y,T⟩:=at' U hj;rw[gv Y]at e2;cases e2;rcases no _ a e1 with⟨d,rfl⟩|rfl
    ·exact⟨v,rfl,AV.same gs T⟩
    ·obtain⟨t',b,c,h3,rfl⟩:=T;exact⟨t',b,c,h3,rfl⟩
   ·rcases no i a e1 with⟨d,rfl⟩|rfl
    ·exact f.elim
    ·exact f.elim
   ·rcases hz with q|q|q
    ·obtain⟨u,B,hn⟩:=o z q;exact⟨u,s1 _ _ B,hn⟩
    ·exact⟨_,by rw[q];exact zm,λ_ q=>by cases q⟩
    ·exact⟨_,by rw[q,zj hne];exact zm,λ_ q=>by cases q⟩
  refine R cdv J outer s _ E as Q' hr D F2 _ _ _ m2 λd v H2 qd t3 k3 r3=>?_;obtain⟨l,xs,rfl,p,a5,a8⟩:=r3;obtain⟨a3,qd⟩:=qd;have a2:l≠y:=λz=>by rw[z,zm]at p;cases p
  have Z:l≠dx:=λz=>by rw[z,zj hne,zm]at p;cases p
  have L:F.H0 l=none:=by rw[zj a2,zj Z]at p;exact p
  have a1:¬F.O0 l:=λz=>by obtain⟨u,B,_⟩:=o l z;rw[L]at B;cases B
  have a6:NT F2 y:=t.nt O;have a0:H2 y=some (.ins C dx []):=k3 _ _ zm a6;refine⟨.ref y,rfl,y,C,dx,[],rfl,a0,c,na,by show 0<1000;decide,?_⟩;refine kk _ _ qd ⟨(t.re t3 rfl).updO O (iT a0),λz u h n=>?_,?_⟩
  ·rw[zj (zo h hy)];exact k3 _ _ (s1 _ _ h) n
  ·refine AV.ins (zF ⟨O,λxs z=>by rw[hy]at z;cases z⟩ zm) (.cons (.lst (zF ⟨a1,λxs z=>by rw[L]at z;cases z⟩ (by rw[zj a2];exact a5)) ?_) .nil);refine a8.noL (λa u hno z=>?_) a3;obtain⟨z1,I⟩:=zi z;have na:a≠y:=λw=>z1.1 (.inl (.inr (.inl w)));refine zF ⟨λw=>z1.1 (.inl (.inl w)),λxs w=>?_⟩ (by rw[zj na];exact I);have:H2 a=some (.lst xs):=k3 _ _ (s1 _ _ w) (t.nt λw=>z1.1 (.inl (.inl w)));rw[I]at this;cases this;exact hno trivial
end
section
variable {X:Cx}{α:Ev}{e e':Expr}{pos:Pos}{E:yo}{sts:List Stmt}
def vR {α:Type}(l:List α)(x:Int)(y:α):List α:=l.take (if x<0 then(x+(l.length:Int)).toNat else min x.toNat l.length)++y::l.drop (if x<0 then(x+(l.length:Int)).toNat else min x.toNat l.length)
theorem oy {α:Type}(l:List α)(x:Int)(y:α):(vR l x y).length=l.length+1:=by
 unfold vR;rw[zQ5,zQ2,zP7,zQ9];exact zM4
theorem Vals.ins {xs:List V}{us:List Value}{y:V}{u:Value}(r:Vals xs us)(a:RelV y u)(i:Int):Vals (vR xs i y) (vR us i u):=by
 unfold vR;rw[r.length];exact(r.take _).append (.cons a (r.drop _))
theorem AVs.ins {H:Hp}{xs:List V}{ds:List PyData}{y:V}{d:PyData}(r:AVs H xs ds)(a:AV H y d)(i:Int):AVs H (vR xs i y) (vR ds i d):=by
 unfold vR;rw[r.length];exact(r.take _).append (.cons a (r.drop _))
theorem zd6 (l:List Value)(k:Nat)(y:Value):(l.toArray.extract 0 k).push y++l.toArray.extract k=(l.take k++y::l.drop k).toArray:=by
 apply Array.toList_inj.mp;simp;exact z03 (by simp)
def zd2 :V->List V->Hp->VK->Prop:=λx vs H Q=>∃l xs i y,x=.ref l/\vs=[.int i,y]/\H l=some (.lst xs)/\-(2 ^ 63)<=i/\i<2 ^ 63/\xs.length<sizeLine/\Q .non (upd H l (.lst (vR xs i y)))
theorem iq :MtM X "list.insert" zd2:=by
 intro pins s σ H x vs v us Q I f d h;obtain⟨l,xs,i,y,rfl,rfl,c,j,m,hz,q⟩:=h;cases f;obtain⟨u,a,rfl,k,b⟩:=d.two;obtain⟨t,rfl⟩:=k;obtain⟨z,its,n,r,g,e⟩:=I.lstM c;refine call_meets F.slot_list_insert ⟨_,e,rfl⟩ F.entry_list_insert (F.args_list_insert_3 _ _ _)
  (PySem.AutoSeq1.list_insert_list_int_val_1 l its.toArray n i t a (by
   have:=fitsIndex_both j m;simp[this]) (by rw[zO3];exact zR4 (zP5 (zO9 g.symm) hz))) ⟨e,?_⟩
 refine⟨.non,_,I.lset (its':=vR its i a) c e ?_ (r.ins b i) (by rw[oy];exact hz),rfl,q⟩;show(its.toArray.extract 0 (if i<0 then(i+(its.toArray.size:Int)).toNat else min i.toNat its.toArray.size)).push a++its.toArray.extract (if i<0 then(i+(its.toArray.size:Int)).toNat else min i.toNat its.toArray.size)=(vR its i a).toArray;rw[zd6,zO3];rfl
theorem hJ (i:Nat){x:Str}{ds:List PyData}{p1 p2 p3:Pos}(hi:α[i]?=some (some (.own ds)))(h:EvD X α e λk=>EvD X α e' λd=>∃j,k=.int j/\-(2 ^ 63)<=j/\j<2 ^ 63/\ds.length<1000/\SvS X (α.set i (some (.own (vR ds j d)))) sts E)
  (G:X.N[i]?=some x:=by rfl) (z:Vis X.env.scope x:=by first|exact Or.inl rfl|exact Or.inr (Or.inl rfl)|exact Or.inr (Or.inr rfl)) (hd:(x == ("__debug__":Str))=false:=by decide) (n:(x == ("__classdict__":Str))=false:=by decide)
  (b:attributeBase (.Name x p1) "insert" X.env (eval (.Name x p1) X.env)=eval (.Name x p1) X.env:=by rfl) (s:starEach [e,e'] X.env=(false,eval e X.env)::starEach [e'] X.env:=by rfl) (g:starEach [e'] X.env=(false,eval e' X.env)::starEach [] X.env:=by rfl)
  (hpl:((((backTo p3 (starEach [e,e'] X.env)).all λx=>!x.fst)&&(backToKw p3 (keywordEach [] X.env)).all λx=>x.fst.isSome)&&decide (([e,e'].length+([]:List Keyword).length+if([]:List Keyword).isEmpty=true then 0 else 1)<30))=true:=by rfl)
  (a:(p2.endLine == p3.line)=true:=by rfl) (c:(backTo p3 (starEach [e'] X.env)).any (·.1)=false:=by rfl) (f:swapsWith (.Call (.Attribute (.Name x p1) "insert" p2) [e,e'] [] p3) none pos.line X.env=pure false:=by rfl):SvS X α (.Expr (.Call (.Attribute (.Name x p1) "insert" p2) [e,e'] [] p3) pos::sts) E:=λF σ H D m r=>by
 obtain⟨l,xs,u,w,t,y,O⟩:=m.own i ds hi;refine⟨_,zy (tU (jV z34 PySem.F.slot_list_insert PySem.F.type_list_insert iq (yw G z hd n) (zA zf (zA zf yh g) s) b hpl a s c) f) zG,?_⟩;refine⟨.ref l,u,.inl ⟨rfl,_,SqL.of w⟩,?_⟩;refine h F σ H _ m λk P H1 C t1 p B=>?_;have m1:=m.kz p t1;refine C F σ H1 _ m1 λd v Q J K o L=>?_;have m2:=m1.kz o K;obtain⟨j,rfl,M,I,A,q⟩:=J;cases B.int_inv;refine⟨l,xs,j,v,rfl,rfl,o _ _ (p _ _ w (m.tp.nt y)) (m.tp.nt y),M,I,by rw[t.length];exact yk (zR4 A),?_⟩;exact q F σ _ D (m2.wrOwn hi u ((((t.same (p.gz m.tp)).same (o.gz m1.tp))).ins L j)) r
theorem AVs.eraseIdx {H:Hp}:∀{xs:List V}{ds:List PyData} (i:Nat),AVs H xs ds->AVs H (xs.eraseIdx i) (ds.eraseIdx i)
 |_,_,_,.nil=>.nil
 |_,_,0,.cons _ r=>r
 |_,_,i+1,.cons a r=>.cons a (AVs.eraseIdx i r)
theorem bu (i:Nat){x:Str}{ds:List PyData}{p1 p2 p3:Pos}(hi:α[i]?=some (some (.own ds)))(h:EvD X α e λk=>∃j n,k=.int j/\-(2 ^ 63)<=j/\j<2 ^ 63/\seqIndex? j ds.length=some n/\n<ds.length/\SvS X (α.set i (some (.own (ds.eraseIdx n)))) sts E)
  (z:X.N[i]?=some x:=by rfl) (v:Vis X.env.scope x:=by first|exact Or.inl rfl|exact Or.inr (Or.inl rfl)|exact Or.inr (Or.inr rfl)) (hd:(x == ("__debug__":Str))=false:=by decide) (o:(x == ("__classdict__":Str))=false:=by decide)
  (b:attributeBase (.Name x p1) "pop" X.env (eval (.Name x p1) X.env)=eval (.Name x p1) X.env:=by rfl) (s:starEach [e] X.env=(false,eval e X.env)::starEach [] X.env:=by rfl)
  (hpl:((((backTo p3 (starEach [e] X.env)).all λx=>!x.fst)&&(backToKw p3 (keywordEach [] X.env)).all λx=>x.fst.isSome)&&decide (([e].length+([]:List Keyword).length+if([]:List Keyword).isEmpty=true then 0 else 1)<30))=true:=by rfl)
  (a:(p2.endLine == p3.line)=true:=by rfl) (f:swapsWith (.Call (.Attribute (.Name x p1) "pop" p2) [e] [] p3) none pos.line X.env=pure false:=by rfl):SvS X α (.Expr (.Call (.Attribute (.Name x p1) "pop" p2) [e] [] p3) pos::sts) E:=λF σ H D m r=>by
 obtain⟨l,xs,t,u,d,B,G⟩:=m.own i ds hi;refine⟨_,zy (tU (jV z34 PySem.F.slot_list_pop PySem.F.type_list_pop eA (yw z v hd o) (zA zf yh s) b hpl a s) f) zG,?_⟩;refine⟨.ref l,t,.inl ⟨rfl,_,SqL.of u⟩,?_⟩;refine h F σ H _ m λk I H1 y t1 p w=>?_;have m1:=m.kz p t1;obtain⟨j,n,rfl,C,A,hn,g,q⟩:=y;cases w.int_inv;have c:n<xs.length:=by rw[d.length];exact g
 refine⟨l,xs,j,n,xs[n],rfl,rfl,p _ _ u (m.tp.nt B),C,A,by rw[d.length];exact hn,zN2 c,?_⟩;exact q F σ _ D (m1.wrOwn hi t ((d.same (p.gz m.tp)).eraseIdx n)) r
end
def Itv (K:PySem.W.Frag)(a:Addr)(n:Nat):It:=
 ⟨λi H=>∃xs x,SqL K H a xs/\xs.length=n/\i<n/\xs[n-1-i]?=some x,λi H x H'=>H'=H/\∀xs,SqL K H a xs->xs[n-1-i]?=some x,λi H=>n<=i⟩
theorem fU {P:Program}{w:World}{K:PySem.W.Frag}{tg:Expr}(a it:Addr)(n:Nat):Turn P w K tg (Itv K a n) [it] it (λi h=>i<=n/\h.IsRevIter it a ((n:Int)-1-(i:Int))) where
 mem:=by simp
 obj:=λi h st b hb=>by
  have e:b=it:=by simpa using hb
  subst e;obtain⟨_,o,e,c,d⟩:=st;exact⟨o,e,λv z=>by rw[d]at z;cases z⟩
 keep:=λi h h' st k=>⟨st.1,st.2.at λo e=>k it (by simp) o e⟩
 item:=by
  intro X j hw g q i pins s σ H E I hf st hg;subst j hw g;obtain⟨xs,x,hq,G,hi,r⟩:=hg;obtain⟨its,t,p,hz⟩:=I.list hq;obtain⟨u,F,C⟩:=t.get r;obtain⟨f0,f1,f2,m,f4,l⟩:=hf it (by simp);have e1:((n:Int)-1-(i:Int))=((n-1-i:Nat):Int):=by lia
  have st':=st.2;rw[e1]at st';refine wpAny_pyNext_rev_item st' p.isList (x:=u) (by simpa using F) λh' f sb=>?_;have B:Inv X pins σ H {s with heap:=h'}:=I.turned (t':=s.toks) (λb o hb e=>(sb.2 b hb).trans e) f0 f1 m f4 l;obtain⟨o,e,c,d⟩:=id f;have D:(((n-1-i:Nat):Int)-1)=(n:Int)-1-((i+1:Nat):Int):=by lia
  rw[D]at f;exact⟨u,rfl,jR (s:={s with heap:=h'}) e c d (by decide) ⟨x,H,B,C,⟨rfl,λys hy=>by rw[I.list_inj hy hq];exact r⟩,⟨hi,f⟩,λb hb=>(hf b hb).1⟩⟩
 done:=by
  intro X j hw g q i pins s σ H E I hf st hg;subst j hw g;have hi:i=n:=zW4 st.1 hg;obtain⟨f0,f1,f2,m,f4,l⟩:=hf it (by simp);have st':=st.2;rw[show((n:Int)-1-(i:Int))=-1 by lia]at st';exact wpAny_pyNext_rev_end (I.ok.hd q) st' λh' y=>⟨rfl,I.turned (t':=s.toks) (λb o hb e=>y b o hb e) f0 f1 m f4 l⟩
 self:=λA i s Q E st h=>wpAny_pyIter_revIter st.2 h
section
variable {X:Cx}{α:Ev}{tg:Expr}{p pos:Pos}{a:Expr}
def zL7 (K:PySem.W.Frag)(b:TA):TI:=λσ H R=>b σ H λvs H1=>∃l xs,vs=[.ref l]/\SqL K H1 l xs/\R (Itv K l xs.length) H1
theorem zx4 {k:TA}(hg:Gl X "reversed")(hm:X.mg "reversed"=none)(ha:PA X [a] k)(l:starEach [a] X.env=[(false,eval a X.env)]:=by rfl):PI X tg (.Call (.Name "reversed" p) [a] [] pos) (zL7 X.K k):=by
 intro pins s σ H R I h;refine Call_ (xD I hg hm boot_reversed (zU7 (thn (ha pos pins s σ H _ I h) λus s1 j=>?_) l rfl));obtain⟨vs,H1,f,n,r⟩:=j;obtain⟨l1,xs,e,g,q⟩:=r;subst e;obtain⟨u,rfl,m⟩:=Vals.one n;cases(show u=Value.ref l1 from m);obtain⟨d,i,p1,t⟩:=f.list g;have hlen:=i.length;refine call_reversed_list p1.isList ?_;have c:({s1 with heap:=s1.heap.push (revObj l1 ((d.toArray.size:Int)-1))}:Shared).heap.IsRevIter s1.heap.objs.size l1 ((xs.length:Int)-1-((0:Nat):Int)):=by
  refine⟨_,zO2 _ rfl,rfl,?_⟩;show Data.fields _=_;rw[zO3,hlen];simp
 refine wpAny_pyIter_revIter c ?_;refine⟨_,_,_,_,H1,rfl,f.kept (t':=s1.toks) λb o e=>zM9 _ e,fU l1 _ xs.length,⟨zO5 _,c⟩,λb hb=>?_,q⟩;have e:b=s1.heap.objs.size:=by simpa using hb
 subst e;exact f.fpOk (zN5 _) (f.hok.fresh (zN5 _))
theorem zp3 {Q:List PyData->Prop}(hg:Gl X "reversed")(hm:X.mg "reversed"=none)(h:EvD X α a λx=>∃ds,x=.list ds/\Q ds.reverse)(e:starEach [a] X.env=[(false,eval a X.env)]:=by rfl):
  EvI X α tg (.Call (.Name "reversed" p) [a] [] pos) Q:=λF σ H R m k=>by
 refine⟨_,zx4 hg hm (zA zf yh e) e,?_⟩;refine h F σ H _ m λx t H1 j t1 n g=>?_;obtain⟨ds,rfl,q⟩:=j;obtain⟨l1,xs,rfl,g1,g2⟩:=g.lst_inv;refine⟨l1,xs,rfl,SqL.of (zi g1).2,k _ _ H1 q t1 n λi r p s=>⟨λd hd=>?_,λf=>?_⟩⟩
 ·have s1:=SqL.of (K:=X.K) (zi (s _ _ g1)).2;have hi:i<ds.length:=by
   have:=(zN8.mp hd).1
   rwa [z56]at this
  rw[List.getElem?_reverse hi]at hd;obtain⟨l,b,c⟩:=g2.get hd;rw[<-g2.length]at b;refine⟨⟨xs,l,s1,rfl,by rw[g2.length];exact hi,b⟩,λv o y=>?_⟩;obtain⟨rfl,hy⟩:=y;have:=hy _ s1;rw[b]at this;cases this;exact⟨zt.refl _,λ_=>c.same s⟩
 ·rw[z56,<-g2.length]at f;exact f
end
def EnS (w:World):List DictEntry->List (Str×V)->Prop:=Paired λe p=>e.hash=hashStr w p.1/\(∃t,e.key=.str p.1 t)/\RelV p.2 e.val
def jw (K:PySem.W.Frag)(w:World)(d:Addr)(a:List (Str×V)):Prop:=
 ∃es n,K.lookup d=some ⟨.type "dict",none,.dict es n,#[]⟩/\EnS w es.toList a/\(a.map (·.1)).Nodup
theorem gK {P:Program}{w:World}{es:List DictEntry}{a:List (Str×V)}(h:EnS w es a):Pairs (PySem.strKind P w) es (List.zipWith (λe (p:Str×V)=>(p.1,e.val)) es a):=by
 induction h with
 |nil=>exact .nil
 |cons q _ c=>
  obtain⟨_,⟨t,b⟩,_⟩:=q;exact .cons (by rw[b];simp[PySem.strKind,Value.isStrOf]) rfl c
theorem zc7 {w:World}{es:List DictEntry}{a:List (Str×V)}(h:EnS w es a):(List.zipWith (λe (p:Str×V)=>(p.1,e.val)) es a).map (·.1)=a.map (·.1):=by
 induction h with
 |nil=>rfl
 |cons _ _ b=>simp only[List.zipWith_cons_cons,zR6,b]
theorem dR {P:Program}{w:World}{es:List DictEntry}{c:List (Str×V)}(h:EnS w es c):∀e∈es,∃k,(PySem.strKind P w).is k e.key=true/\e.hash=(PySem.strKind P w).hash k:=by
 induction h with
 |nil=>intro e he;simp at he
 |@cons _ p _ _ q _ ih=>
  obtain⟨a,⟨t,b⟩,_⟩:=q;intro e he;rcases zN6.mp he with rfl|he
  ·exact⟨p.1,by rw[b];simp[PySem.strKind,Value.isStrOf],a⟩
  ·exact ih e he
theorem aI {w:World}{x:Str}{v:V}{es:List DictEntry}{a:List (Str×V)}(d:EnS w es a)(h:a.lookup x=some v):∃u,valueAt (List.zipWith (λe (p:Str×V)=>(p.1,e.val)) es a) x=some u/\RelV v u:=by
 induction d with
 |nil=>simp at h
 |@cons e p _ _ k _ ih=>
  obtain⟨y,z⟩:=p;by_cases q:x=y
  ·subst q;simp only[List.lookup_cons_self,Option.some.injEq]at h;subst h;exact⟨e.val,by simp[valueAt],k.2.2⟩
  ·rw[zT4,zZ9.mpr q]at h;obtain⟨u,b,c⟩:=ih h;refine⟨u,?_,c⟩;rw[<-b];simp[valueAt,zU1,zS3 q]
section
variable {X:Cx}{α:Ev}{p pos:Pos}{a:Expr}{g:Str}{Q:PyData->Prop}
def zs8 (i:Expr):Prop:=∀c b,subscripted i false c b=operate [c,b] (getItem c b)
theorem zJ3 {prog:Program}{w:World}{A:Around}{E:Value->Shared->Prop}{s:Shared}{env:Env}{value slice:Expr}{pos:Pos}{T id:String}{Q:Value->Shared->Prop}
  (m:typeLookup (.type T) "__getitem__"=pure (some (.builtin id))) (l:zs8 slice)
  (h:wpAny (model prog w) A (eval value env) (λo d=>wpAny (model prog w) A (eval slice env) (λi b=>b.TypeIs o T/\wpAny (model prog w) A (getItem o i) Q E b) E d) E s):
  wpAny (model prog w) A (eval (.Subscript value slice pos) env) Q E s:=by
 refine Subscript_ (thn h λo d j=>thn j λi b c=>?_);obtain⟨k,c⟩:=c;unfold subscriptTail;refine zM8 ?_;rw[getitemInPython_of_ne k.not_modules];refine zM8 (z84 k m ?_);have fin:wpAny (model prog w) A (subscripted slice false o i) (λr e=>wpAny (model prog w) A (letTemporaryGo value o r >>= λ_=>pure r) Q E e) E b:=by
  rw[l o i];exact wpAny_operating (thn c λr e f=>zM8 (wpAny_letTemporaryGo (zN1 f)))
 first
  |exact zN1 (zM8 fin)
  |exact zM8 (zN1 (zM8 fin))
  |exact zM8 fin
theorem fC {d:Addr}{b:List (Str×V)}{ty:TE}(hg:Gl X g)(hm:X.mg g=some (.ref d))(hd:jw X.K X.w d b)(hi:PE X a ty)(k:zs8 a)(hb:(g == ("__debug__":Str))=false:=by decide):
  PE X (.Subscript (.Name g p) a pos) (λσ H Q=>ty σ H λy H1=>∃x v,y=.str x/\b.lookup x=some v/\Q v H1):=by
 intro pins s σ H Q I h;refine zJ3 PySem.F.slot_dict_getitem.lookup k (tY I hg hm (thn (hi pins s σ H _ I h) λB s2 c=>?_) hb);obtain⟨y,q,i,o,x,v,A,ex,r⟩:=c;subst A;obtain⟨t,rfl⟩:=o;obtain⟨es,n,l,he,hn⟩:=hd;have j:s2.heap.DictOf (PySem.strKind X.prog X.w) d (List.zipWith (λe (p:Str×V)=>(p.1,e.val)) es.toList b):=
  ⟨_,es,n,i.kIn _ _ l,⟨rfl,rfl,rfl⟩,rfl,λe f=>dR he e (by simpa using f),gK he,by rw[zc7 he];exact hn⟩
 obtain⟨u,m,z⟩:=aI he ex;exact⟨j.typeIs,wpAny_getItem_of (show(PySem.strKind X.prog X.w).is x (.str x t)=true by simp[PySem.strKind,Value.isStrOf]) j.mapOf m ⟨v,q,i.tok _,z,r⟩⟩
def scV :PyData->Option V
 |.none=>some .non
 |.bool b=>some (.bl b)
 |.int i=>some (.int i)
 |.str x=>some (.str x)
 |_=>Option.none
theorem fO {H:Hp}{d:PyData}{v:V}(h:scV d=some v):AV H v d:=by
 cases d<;>simp[scV]at h<;>subst h<;>constructor
theorem dY {d:Addr}{b:List (Str×V)}(hg:Gl X g)(hm:X.mg g=some (.ref d))(hd:jw X.K X.w d b)(h:EvD X α a λy=>∃x d v,y=.str x/\b.lookup x=some v/\scV d=some v/\Q d)(c:zs8 a:=by exact λ_ _=>rfl)
  (hb:(g == ("__debug__":Str))=false:=by decide):EvD X α (.Subscript (.Name g p) a pos) Q:=λF σ H R m k=>by
 refine⟨_,fC hg hm hd zf c hb,?_⟩;refine h F σ H _ m λy n H1 j t1 l f=>?_;obtain⟨x,d',v,rfl,e,i,q⟩:=j;cases f.str_inv;exact⟨x,v,rfl,e,k _ _ H1 q t1 l (fO i)⟩
end
section
variable {X:Cx}{α:Ev}{p pos:Pos}{a b:Expr}{g:Str}{Q:PyData->Prop}
def tH :List (PyData×PyData)->Str->Option PyData
 |[],_=>none
 |(.str y,d)::r,x=>if y=x then some d else tH r x
 |_::r,x=>tH r x
theorem aX (h0:Heap){v:V}{d:PyData}{u:Value}(h:scV d=some v)(f:PyProof.V.Flat u d):RelV v u:=by
 have r:=f h0;cases d with
 |none=>cases h;cases r;rfl
 |bool b=>cases h;cases r;rfl
 |int i=>cases h;cases r;exact⟨_,rfl⟩
 |str x=>cases h;cases r;exact⟨_,rfl⟩
 |_=>cases h
theorem zt1 {lo hi:Option Expr}(h:EvD X α a λx=>EvO X α lo λl=>EvO X α hi λu=>∃ds,x=.tuple ds/\¬(HT.sIx ds.length 0 l=0/\HT.sIx ds.length ds.length u=ds.length)/\Q (.tuple (cutD ds l u))):EvD X α (.Subscript a (.Slice lo hi none p) pos) Q:=λF σ H R m k=>by
 refine⟨_,sX zs9 zf tM tM,?_⟩;refine h F σ H _ m λx y H1 n t1 i j=>?_;have m1:=m.kz i t1;refine n F σ H1 _ m1 λl r s t f=>?_;have m2:=m1.kz f t;refine s F σ r _ m2 λu w v t3 d=>?_;have m3:=m2.kz d t3;obtain⟨ds,rfl,hn,q⟩:=v;obtain⟨ad,xs,rfl,g1,g2⟩:=(j.same ((f.gz m1.tp).trans (d.gz m2.tp))).tup_inv;refine⟨ad,xs,rfl,SqT.of (zi g1).2,by rw[g2.length];exact hn,λp c=>?_⟩;refine k _ _ _ q (t3.same (zH c)) (((i.trans f).trans d).trans (Kz.of_same (zH c))) (.tup (xs:=sR xs l u) (zF (m3.fresh c) zm) ((g2.cut l u).same (zr λa o ha e=>⟨ha,by rw[zj (zo e c)];exact e⟩)))
theorem za4 (h:EvD X α a λx=>EvD X α b λy=>∃ds es,x=.tuple ds/\y=.tuple es/\ds≠[]/\ds.length+es.length<=1000/\Q (.tuple (ds++es))):EvD X α (.BinOp a .Add b pos) Q:=λF σ H R m k=>by
 refine⟨_,yW aW zf zf,?_⟩;refine h F σ H _ m λx A H1 r t1 j n=>?_;have m1:=m.kz j t1;refine r F σ H1 _ m1 λy v w s i d t=>?_;have m2:=m1.kz d i;obtain⟨ds,es,rfl,rfl,hn,l,q⟩:=s;obtain⟨a1,xs,rfl,g1,g2⟩:=(n.same (d.gz m1.tp)).tup_inv;obtain⟨u,ys,rfl,g3,f⟩:=t.tup_inv;refine⟨a1,u,xs,ys,rfl,rfl,SqT.of (zi g1).2,SqT.of (zi g3).2,(λz=>hn (by subst z;cases g2;rfl)),by rw[g2.length,f.length];exact zR4 (yk l),(λz=>?_),λz p c=>?_⟩
 ·subst z;cases f;rw[zU0]at q;exact k _ _ _ q i (j.trans d) (.tup g1 g2)
 ·exact k _ _ _ q (i.same (zH c)) ((j.trans d).trans (Kz.of_same (zH c))) (.tup (xs:=xs++ys) (zF (m2.fresh c) zm) ((g2.append f).same (zr λa o ha e=>⟨ha,by rw[zj (zo e c)];exact e⟩)))
def vq :PyData->Bool
 |.none=>true
 |.bool _=>true
 |.int _=>true
 |.str _=>true
 |_=>false
theorem pS {H:Hp}{v:V}{d:PyData}(h:AV H v d)(f:vq d=true):vw v=true/\scV d=some v:=by
 cases h<;>first|exact⟨rfl,rfl⟩|cases f
theorem nW {H:Hp}{xs:List V}{ds:List PyData}(h:AVs H xs ds)(f:ds.all vq=true):xs.all vw=true/\ds.map scV=xs.map some:=by
 induction h using AVs.ind with
 |nil=>exact⟨rfl,rfl⟩
 |cons h _ i=>
  rw[z97,zR5]at f;obtain⟨c,d⟩:=pS h f.1;obtain⟨e,j⟩:=i f.2;exact⟨by rw[z97,c,e];rfl,by rw[zR6,zR6,d,j]⟩
def inD (x:PyData)(ds:List PyData):Bool:=ds.any λy=>match scV y,scV x with
 |some u,some v=>eqV u v
 |_,_=>false
theorem pK {v:V}{x:PyData}(c:scV x=some v):∀{xs:List V}{ds:List PyData},ds.map scV=xs.map some->inV v xs=inD x ds
 |[],[],_=>rfl
 |[],_::_,e=>by cases e
 |_::_,[],e=>by cases e
 |u::xs,d::ds,e=>by
  rw[zR6,zR6]at e;injection e with e1 h;have f:=pK c h;unfold inV inD at f ⊢;rw[z52,z52,f,e1,c]
theorem bG {neg:Bool}{x:PyData}{ds:List PyData}(d:vq x=true)(fs:ds.all vq=true):Cmp (rIn X.K neg) x (.list ds) (if neg then !inD x ds else inD x ds):=λp H i f R c e h=>by
 obtain⟨ad,xs,rfl,g1,g2⟩:=e.lst_inv;obtain⟨f1,s1⟩:=pS c d;obtain⟨f2,s2⟩:=nW g2 fs;refine⟨ad,xs,rfl,.inl (SqL.of (zi g1).2),f1,f2,?_⟩;rw[pK s1 s2];exact h
theorem jH {neg:Bool}{x:PyData}{ds:List PyData}(d:vq x=true)(fs:ds.all vq=true):Cmp (rIn X.K neg) x (.tuple ds) (if neg then !inD x ds else inD x ds):=λp H i f R c e h=>by
 obtain⟨ad,xs,rfl,g1,g2⟩:=e.tup_inv;obtain⟨f1,s1⟩:=pS c d;obtain⟨f2,s2⟩:=nW g2 fs;refine⟨ad,xs,rfl,.inr (SqT.of (zi g1).2),f1,f2,?_⟩;rw[pK s1 s2];exact h
end
section
variable {X:Cx}{α:Ev}{p pos:Pos}{a b:Expr}{Q:PyData->Prop}
end
section
variable {X:Cx}{α:Ev}{a e:Expr}{pos p2 p3 p4:Pos}{n1:Nat}{te:TE}
theorem zc3 {b c:Expr}{i j k:Int}{Q:Bool->Prop}(hm:lastMarks [.LtE,.LtE] [b,c]=false)(ha:∀Q:PyData->Prop,Q (.int i)->EvD X α a Q)(hb:∀Q:PyData->Prop,Q (.int j)->EvD X α b Q)(d:∀Q:PyData->Prop,Q (.int k)->EvD X α c Q)(h:Q (decide (i<=j)&&decide (j<=k))):
  EvT X α (.Compare a [.LtE,.LtE] [b,c] pos) Q:=gQ rq rq hm ha hb d h
end
def eR (T:Addr)(H:Hp):Prop:=∀b:Addr,H b=none\/b=T\/∃o xs,H b=some (.frz o (.lst xs))
theorem gp {P:Program}{w:World}{K:PySem.W.Frag}{mg mb:Str->Option Value}{CX:CXT}{k:Nat}{L a T:Addr}{fd:FuncData}{x:Str}{sp:Sp}{c:Shared}{vs:List Value}{ns:List Int}{ps:Array Value}
  (KX:K.In c.heap) (y:c.heap.Ns mainGlobals mg) (hb:c.heap.Ns builtinsNs mb) (S:∀x:Str,x≠"__name__"->mb x=bootBuiltins x) (G:c.heap.NoLimit) (hg:c.gens=#[])
  (ha:c.heap.get? a=some {cls:=.type "list",data:=.seq vs.toArray}) (hi:IntsAre vs ns) (hl:ns.length<=sizeLine) (hr:zN k callerA)
  (A:c.heap.get? T=some (PySem.W.tabObj ps)) (X:K.lookup T=none) (Y:isCodeTable c.heap T)
  (U:∃bm ob,mg "__builtins__"=some (.ref bm)/\bm≠builtinsNs/\c.heap.get? bm=some ob/\ob.cls=.type "module"/\ob.dict=some builtinsNs/\ob.data=.plain)
  (F:∀base:Heap,K.In base->base.Ns mainGlobals mg->base.BuiltinsAt mg T->yK P w K mg base CX k L fd [x] sp) (p:∀(s:Shared) (u:Value),BindsTo s fd ⟨[u],[]⟩ [(x,u)])
  (Q:∀H:Hp,eR T H->H T=some (.tbl ps)->SqL K H a (ns.map V.int)->sp [.ref a] H (λv _=>v=.bl true) λ_ _ _=>False)
  (O:∀H e s',CX [] H c (λ_ _ _=>False) e s'->False):
  codeAny (model P w) callerA (.call (.ref L) ⟨[.ref a],[]⟩) (λr s'=>r=.ok (.ret (.bool true))/\OldK c.heap s'.heap/\s'.os=c.os/\AllBare s'.gens) c:=by
 have rv:=gW hi;have C:=hi.length;have B:a≠T:=λz=>by rw[z,A]at ha;cases ha
 have core:∀H:Hp,eR T H->H T=some (.tbl ps)->SqL K H a (ns.map V.int)->HOk P w H c.heap->(∀b,H b≠none->b=a\/b=T)->(H a≠none->K.lookup a=none)->
   codeAny (model P w) callerA (.call (.ref L) ⟨[.ref a],[]⟩) (λr s'=>r=.ok (.ret (.bool true))/\OldK c.heap s'.heap/\s'.os=c.os/\AllBare s'.gens) c:=by
  intro H hO E hS hok M hK;have f:∀{b:Addr} {o:Obj},c.heap.get? b=some o->H b=none->(qo c.heap H).get? b=some o:=λe n=>fj e n;have J:∀{b:Addr} {o:Obj} {es:Array DictEntry} {ep:Nat},c.heap.get? b=some o->o.data=.dict es ep->H b=none:=λ{b o es ep} e d=>by
   cases q:H b with
   |none=>rfl
   |some u=>
    rcases M b (by rw[q];simp)with g|g
    ·subst g;rw[ha]at e;cases e;have d':Data.seq vs.toArray _=Data.dict es ep:=d;cases d'
    ·subst g;rw[A]at e;cases e;have d':Data.fields ps=Data.dict es ep:=d;cases d'
  have i:∀{b:Addr} {m:Str->Option Value},c.heap.Ns b m->(qo c.heap H).Ns b m:=λ{b m} Z=>by obtain⟨o,es,ep,e,d,r⟩:=Z;exact⟨o,es,ep,f e (J e d),d,r⟩
  have D:K.In (qo c.heap H):=λb o e=>f (KX b o e) (by
   cases q:H b with
   |none=>rfl
   |some u=>
    rcases M b (by rw[q];simp)with g|g
    ·subst g;rw[hK (by rw[q];simp)]at e;cases e
    ·subst g;rw[X]at e;cases e)
  have hM:Mod K mg (qo c.heap H):=⟨D,i y,⟨mb,i hb,S⟩,let⟨mc,h1,h2⟩:=G;⟨mc,i h1,h2⟩⟩;have R:(qo c.heap H).BuiltinsAt mg T:=by
   obtain⟨bm,ob,b1,b2,t,b4,b5,I⟩:=U;have n1:bm≠T:=λz=>by rw[z,A]at t;cases t;cases b4
   have n2:bm≠a:=λz=>by rw[z,ha]at t;cases t;cases I
   have n3:bm≠mainGlobals:=λz=>by
    obtain⟨o,es,ep,e,d,_⟩:=y;rw[z,e]at t;cases t;rw[d]at I;cases I
   exact⟨bm,ob,b1,b2,n3,n1,f t (by
    cases q:H bm with
    |none=>rfl
    |some u=>
          rcases M bm (by rw[q];simp)with g|g
          ·exact absurd g n2
          ·exact absurd g n1),b4,b5,I⟩
  have e0:uR P w K mg (qo c.heap H) callerA [] c H:=⟨rfl,hM,λb o e=>zb8 e,zO9 (iF _ _),trivial,λb hb=>absurd (show b∈([]:List Addr)from hb) (by simp),hok,.of_eq hg⟩;refine z44 ((F _ D (i y) R).run callerA [] c H ⟨[.ref a],[]⟩ [.ref a] [.ref a] _ _ hr e0 (p c (.ref a)) (.cons rfl .nil) (Q H hO E hS)) λr s' h=>?_;cases r with
  |error e=>exact(O H e s' h).elim
  |ok fl=>
   cases fl with
   |next=>exact False.elim h
   |brk=>exact False.elim h
   |cont=>exact False.elim h
   |ret u=>
    obtain⟨v,H',os,bare,un,l,r',q⟩:=h;have q':v=.bl true:=q;subst q';obtain rfl:u=Value.bool true:=r';have old:∀b o,c.heap.get? b=some o->asItWas c.heap s'.heap b o:=λb o e=>by
     cases q:H b with
     |none=>exact .inl (un.keep b o e q (by intro z;exact absurd (show b∈([]:List Addr)from z) (by simp)) (by simp))
     |some u=>
      rcases hO b with z|z|⟨ob,xs,z⟩
      ·rw[q]at z;cases z
      ·subst z;obtain⟨more,hm⟩:=un.tbls _ _ E;have N:s'.heap.get? b=some {cls:=.none,data:=.fields (ps++more)}:=l _ _ hm;rw[A]at e;cases e;exact .inr (.inl ⟨Y,rfl,ps,more,rfl,N⟩)
      ·have z2:=un.frzs b ob _ z;obtain⟨e1,_⟩:=hok b _ z;obtain⟨N,_⟩:=l b _ z2;rw[e]at e1;cases e1;exact .inl N
    refine⟨rfl,⟨old,λb o e=>?_⟩,os,bare⟩;rcases old b o e with z|⟨_,_,_,_,_,z⟩|⟨_,_,⟨o',_,_,z,_⟩,_⟩
    ·exact⟨_,z⟩
    ·exact⟨_,z⟩
    ·exact⟨_,z⟩
 cases hk:K.lookup a with
 |some o=>
  have e:=KX a o hk;rw[ha]at e;cases e;refine core (λb=>if b=T then some (.tbl ps)else none) (λb=>?_) (if_pos rfl) (.inr ⟨_,vs.toArray,_,hk,rfl,rfl,rfl,by rw[zO3,C];exact hl,by simpa using rv⟩) (λb u z=>?_) (λb z=>?_) λz=>absurd (if_neg B) z
  ·by_cases h:b=T
   ·exact .inr (.inl h)
   ·exact .inl (if_neg h)
  ·by_cases h:b=T
   ·have j:=(if_pos h).symm.trans z;cases j;subst h;exact A
   ·have j:=(if_neg h).symm.trans z;cases j
  ·by_cases h:b=T
   ·exact .inr h
   ·exact absurd (if_neg h) z
 |none=>
  refine core (λb=>if b=T then some (.tbl ps)else if b=a then some (.frz {cls:=.type "list",data:=.seq vs.toArray} (.lst (ns.map V.int)))else none) (λb=>?_) (if_pos rfl) (.inl (.inr ⟨{cls:=.type "list",data:=.seq vs.toArray},(if_neg B).trans (if_pos rfl)⟩)) (λb u z=>?_) (λb z=>?_) λ_=>hk
  ·by_cases h:b=T
   ·exact .inr (.inl h)
   ·by_cases hb:b=a
    ·exact .inr (.inr ⟨_,_,(if_neg h).trans (if_pos hb)⟩)
    ·exact .inl ((if_neg h).trans (if_neg hb))
  ·by_cases h:b=T
   ·have j:=(if_pos h).symm.trans z;cases j;subst h;exact A
   ·have z:=(if_neg h).symm.trans z;by_cases hb:b=a
    ·have j:=(if_pos hb).symm.trans z;cases j;subst hb;exact⟨ha,by rw[zN0];exact hl,vs,_,rv,ha⟩
    ·have j:=(if_neg hb).symm.trans z;cases j
  ·by_cases h:b=T
   ·exact .inr h
   ·by_cases hb:b=a
    ·exact .inl hb
    ·exact absurd ((if_neg h).trans (if_neg hb)) z
theorem dM {l:PySem.W.OpenLaw}{n k:Nat}{q:Program}{loose:List Str}{M:(Str->Option Value)->Heap->Prop}{z:World->Heap->Prop}{d:DefRec}{K:Params->PySem.W.Frag}{CX:World->CXT}{sp:World->Sp}{x:Str}{T c:Addr}{ps:Array Value}
  (hn:l.most=some n) (r:n<=sizeLine) (hdf:d.params.defaults=[]) (hr:zN k callerA)
  (L:∀(w:World) (h:Heap),z w h->(K w.params).In h) (D:∀(w:World) (h:Heap),z w h->h.get? T=some (PySem.W.tabObj ps))
  (A:∀w:World,(K w.params).lookup T=none) (m:∀w:World,∃o vs,(K w.params).lookup c=some o/\o.cls=.type "code"/\o.data=.fields vs/\vs[11]?=some (.ref T))
  (F:∀(w:World) (mg:Str->Option Value) (p:Addr) (h:Heap),(K w.params).In h->h.Ns mainGlobals mg->mg d.name=some (.ref p)->
   ∃fd:FuncData,(∀(s:Shared) (u:Value),BindsTo s fd ⟨[u],[]⟩ [(x,u)])/\
    ∀base:Heap,(K w.params).In base->base.Ns mainGlobals mg->base.BuiltinsAt mg T->yK l.prog w (K w.params) mg base (CX w) k p fd [x] (sp w))
  (y:∀(w:World) (H:Hp) (a:Addr) (ns:List Int),ns.length<=n->eR T H->H T=some (.tbl ps)->SqL (K w.params) H a (ns.map V.int)->sp w [.ref a] H (λv _=>v=.bl true) λ_ _ _=>False)
  (t:∀(w:World) (H:Hp) (s:Shared) (e:Value) (s':Shared),CX w [] H s (λ_ _ _=>False) e s'->False):
  PySem.W.WalkO q loose M z l.row.toRowW d [] (λf vs=>PySem.call f vs):=by
 refine Att.attach_call hn hdf λw s₀ j mg mb p o pm cd doc a vs ns G Y R hd N B i hints hlen hg=>?_;have C:=L w _ Y;obtain⟨oc,cv,O,t3,I,E⟩:=m w;obtain⟨fd,hb,hF⟩:=F w mg p _ C G.T.g B;exact gp C G.T.g G.T.b G.T.builtins G.T.nolimit hg i hints (zO0 hlen r) hr (D w _ Y) (A w) ⟨c,oc,cv,C _ _ O,t3,I,E⟩ G.T.bmain hF hb (λH Q J P=>y w H a ns hlen Q J P) λH e s'=>t w H j e s'
theorem TabAt.same {H H':Hp}(T:TabAt H)(h:∀a o,(∀xs,o≠.lst xs)->H a=some o->H' a=some o):TabAt H':=rT T h
section
variable {X:Cx}{pins:List (Addr×Obj)}{σ:St}{H:Hp}{s:Shared}{h':Heap}
theorem Inv.tblMore {t':Nat}{p:Addr}{ps more:Array Value}{H':Hp}(I:Inv X pins σ H s)(h:H p=some (.tbl ps))(k:∀b u,b≠p->s.heap.get? b=some u->h'.get? b=some u)(e:h'.get? p=some (PySem.W.tabObj (ps++more)))
  (g:H' p=some (.tbl (ps++more))) (a:∀b,b≠p->b<s.heap.objs.size->H' b=H b) (new:∀b o,s.heap.objs.size<=b->H' b=some o->zT X.prog X.w H' h' b o):
  Inv X pins σ H' {s with heap:=h',toks:=t'}:=by
 have ne:∀b,H b=none->b≠p:=λb n z=>by rw[z,h]at n;cases n
 have nt:∀b o,H b=some o->(∀d,o≠.tbl d)->b≠p:=λb o q n z=>by rw[z,h]at q;cases q;exact n _ rfl
 have lt:∀b o,H b=some o->b<s.heap.objs.size:=λb o q=>by
  rcases zS6 b s.heap.objs.size with z|z
  ·exact z
  ·rw[I.hok.fresh z]at q;cases q
 have st:∀b o,H b=some o->(∀d,o≠.tbl d)->H' b=some o:=λb o q n=>by rw[a b (nt b o q n) (lt b o q)];exact q
 refine I.un ⟨λb o q n _ _=>k b o (ne b n) q,λb o q n _ _=>⟨o.slots,k b o (ne b n) q⟩,λb o q n _=>by rw[a b (ne b n) (zO4 q)];exact n,λb o q _=>?_,λb xs q=>st b _ q (λ_ z=>by cases z),λb o u q=>st b _ q (λ_ z=>by cases z),λb d q=>?_⟩ λb u q=>?_
 ·by_cases z:b=p
  ·exact⟨_,by rw[z];exact e⟩
  ·exact⟨o,k b o z q⟩
 ·by_cases z:b=p
  ·subst z;rw[h]at q;cases q;exact⟨more,g⟩
  ·exact⟨#[],by rw[a b z (lt b _ q),q];simp⟩
 ·by_cases z:b=p
  ·subst z;rw[g]at q;cases q;exact e
  ·rcases zS6 b s.heap.objs.size with l|l
   ·rw[a b z l]at q;refine(I.hok b u q).stay (λc v f r=>k c v (λw=>?_) r) (λc r=>st c _ r λ_ z=>by cases z) λc xs r=>st c _ r λ_ z=>by cases z
    subst w;rcases f with rfl|f
    ·exact z rfl
    ·rw[h]at f;cases f
   ·exact new b u l q
def kD (f c:Addr)(qual:Str)(params:Arguments)(body:Expr)(scope:Scope)(a:List (Str×Addr)):HO:=
 .ext λh=>∃(pm ctv:Value),h.get? f=some (PySem.W.kla_obj "<lambda>" qual params body scope a pm c ctv)
theorem zf5 {P:Program}{w:World}{H:Hp}{h:Heap}{c:Addr}(r:h.CodeRec (.ref c) xr):zT P w H h c (tG c):=by
 refine⟨r,?_,λd e p k=>?_⟩
 ·obtain⟨c',o,vs,t,e1,a,_⟩:=r;cases e1;exact⟨o,a⟩
 ·obtain⟨c',o,vs,t,e1,a,b⟩:=p;cases e1;exact⟨c,o,vs,t,rfl,k _ a,b⟩
theorem bh {P:Program}{w:World}{H:Hp}{h:Heap}{f c:Addr}{qual:Str}{params:Arguments}{body:Expr}{scope:Scope}{a:List (Str×Addr)}{pm ctv:Value}(r:h.get? f=some (PySem.W.kla_obj "<lambda>" qual params body scope a pm c ctv)):zT P w H h f (kD f c qual params body scope a):=
 ⟨⟨pm,ctv,r⟩,⟨_,r⟩,λg i d k=>by obtain⟨e,b,p⟩:=d;exact⟨e,b,k _ p⟩⟩
theorem mZ {pos:Pos}{a b:Int}{c cv:Value}(l:List Value):TriplesOk l->codeAmong pos (l++[rawInt a,rawInt b,c])=some cv->codeAmong pos l=some cv\/cv=c:=by
 induction l using TriplesOk.induct with
 |case1=>
  intro _ h;rw[zU9,rawInt,rawInt,codeAmong.eq_1]at h;split at h
  ·cases h;exact .inr rfl
  ·rw[codeAmong.eq_2 _ _ (by intro _ _ _ _ _ _ z;cases z)]at h;cases h
 |case2 i t j u d rest e=>
  intro ok h;rw[TriplesOk.eq_2]at ok;rw[z29,z29,z29,codeAmong.eq_1]at h;rw[codeAmong.eq_1];split at h
  ·rename_i z;rw[if_pos z];exact .inl h
  ·rename_i z;rw[if_neg z];exact e ok h
 |case3 t f g=>
  intro ok;rw[TriplesOk.eq_3 t f g]at ok;exact ok.elim
theorem fV {params:Arguments}{body:Expr}{scope:Scope}{g:Pos}{i:List (Str×Addr)}{c:Addr}(I:Inv X pins σ H s)(hcl:closureFor scope X.env=pure i)(hgl:X.env.globals=mainGlobals)(hco:X.env.code=.ref c)(hhd:PySem.W.CodeHd X.base c yn)
  (hbi:X.base.BuiltinsAt X.mg yn) (hdf:defaultsOf params X.env=([],[])) (hq:X.env.qual++("<lambda>":Str)=xr) (hne:mainGlobals≠yn) (T:TabAt H) {Q:Value->Shared->Prop}
  (h:∀(f c':Addr) (H':Hp) (s':Shared),Inv X pins σ H' s'->TabAt H'->(∀a o,a≠yn->H a=some o->H' a=some o)->(∀a ps,H a=some (.tbl ps)->∃x,H' a=some (.tbl x))->H f=none->H' f=some (kD f c' xr params body scope i)->H' c'=some (tG c')->Q (.ref f) s'):
  wpAny (model X.prog X.w) X.A (eval (.Lambda params body scope g) X.env) Q X.xe s:=by
 refine PySem.W.kla_eval hdf ?_;rw[hq];obtain⟨ps,t1,C,t3⟩:=T.ex;have G:s.heap.get? yn=some (PySem.W.tabObj ps):=I.hok _ _ t1;have hb:∀b o,X.base.get? b=some o->s.heap.get? b=some o:=λb o e=>(I.bs b o e).1;have n:PySem.W.CodeHd s.heap c yn:=by
  obtain⟨o,vs,f1,f2,Y,f4,f5,V,R,e1,j⟩:=hhd;exact⟨o,vs,f1,f2,Y,f4,f5,V,R,hb _ _ e1,j⟩
 have m:s.heap.BuiltinsAt X.mg yn:=by
  obtain⟨bm,o,e1,j,E,S,e5,e6⟩:=hbi;exact⟨bm,o,e1,j,E,S,hb _ _ e5,e6⟩
 have B:s.heap.Ns mainGlobals X.mg:=by
  obtain⟨o,es,ep,e,d,r⟩:=I.ok.mod.glob;exact⟨o,es,ep,hb _ _ e,d,r⟩
 cases hc:codeAmong g ps.toList with
 |none=>
  refine PySem.W.kla_makeFunction hcl hgl B hco n G C hc hne m λc' ctv h' tk ex l1 l2 cr U=>?_;have P:c'<(h'.push (PySem.W.kla_obj "<lambda>" xr params body scope i ((X.mg "__name__").getD Value.none) c' ctv)).objs.size:=by rw[size_push'];exact zN4 l2 (zP2 _ _)
  have n1:(c':Addr)≠h'.objs.size:=zP1 l2;have q:yn<s.heap.objs.size:=zO4 G;have n2:(c':Addr)≠yn:=zY4 (zN4 q l1);have lf:s.heap.objs.size<=h'.objs.size:=zR4 (zP5 l1 l2);have Z:(h'.objs.size:Addr)≠yn:=zY4 (zN4 q lf)
  let p:Hp:=upd (upd (upd H h'.objs.size (kD h'.objs.size c' xr params body scope i)) c' (tG c')) yn (.tbl (ps++#[rawInt ↑g.line,rawInt ↑g.col,Value.ref c']))
  have D:p yn=some (.tbl (ps++#[rawInt ↑g.line,rawInt ↑g.col,Value.ref c'])):=zm;have eC:p c'=some (tG c'):=by show upd _ _ _ _=_;rw[zj n2,zm]
  have K:p h'.objs.size=some (kD h'.objs.size c' xr params body scope i):=by show upd _ _ _ _=_;rw[zj Z,zj n1.symm,zm]
  have old:∀b,b≠yn->b<s.heap.objs.size->p b=H b:=λb nb v=>by
   show upd _ _ _ _=_;rw[zj nb,zj (zP1 (zN4 v l1)),zj (zP1 (zN4 v lf))]
  have F:Inv X pins σ p {s with heap:=h'.push (PySem.W.kla_obj "<lambda>" xr params body scope i ((X.mg "__name__").getD Value.none) c' ctv),toks:=tk}:=by
   refine I.tblMore (more:=#[rawInt ↑g.line,rawInt ↑g.col,Value.ref c']) t1 (λb u nb e=>zM9 _ (ex b u nb e)) (zM9 _ U) D old λb o v e=>?_;by_cases M:b=h'.objs.size
   ·subst M;rw[K]at e;cases e;exact bh (zO2 _ rfl)
   ·by_cases L:b=c'
    ·subst L;rw[eC]at e;cases e;obtain⟨J,o,vs,t,e1,j,E⟩:=cr;cases e1;exact zf5 ⟨_,o,vs,t,rfl,zM9 _ j,E⟩
    ·have nb:b≠yn:=λz=>absurd v (Nat.not_le_of_lt (z▸q));have e':p b=H b:=by show upd _ _ _ _=_;rw[zj nb,zj L,zj M]
     rw[e',I.hok.fresh v]at e;cases e
  have stay:∀a o,a≠yn->H a=some o->p a=some o:=λa o no e=>by
   have la:a<s.heap.objs.size:=by
    rcases zS6 a s.heap.objs.size with z|z
    ·exact z
    ·rw[I.hok.fresh z]at e;cases e
   rw[old a no la];exact e
  refine h _ c' p _ F ⟨_,D,?_,λpos cv y=>?_⟩ stay (λa x e=>?_) (I.hok.fresh lf) K eC
  ·rw[zQ6];exact TriplesOk_snoc _ _ _ _ C
  ·rw[zQ6]at y;rcases mZ _ C y with z|z
   ·obtain⟨J,rfl,j⟩:=t3 _ _ z;exact⟨J,rfl,stay _ _ (λz=>by rw[z,t1]at j;cases j) j⟩
   ·exact⟨c',z,eC⟩
  ·by_cases O:a=yn
   ·exact⟨_,by rw[O];exact D⟩
   ·refine⟨x,?_⟩;rw[old a O (by
     rcases zS6 a s.heap.objs.size with z|z
     ·exact z
     ·rw[I.hok.fresh z]at e;cases e)]
    exact e
 |some cv=>
  obtain⟨c',rfl,N⟩:=t3 _ _ hc;refine PySem.W.kla_makeFunctionHit hcl hgl B hco n G C hc m λctv h' tk k l=>?_;have hf:H h'.objs.size=none:=I.hok.fresh l;have k2:∀b u,s.heap.get? b=some u->(h'.push (PySem.W.kla_obj "<lambda>" xr params body scope i ((X.mg "__name__").getD Value.none) c' ctv)).get? b=some u:=λb u e=>zM9 _ (k b u e);have F:=I.laid (t':=tk) (o:=kD h'.objs.size c' xr params body scope i) k2 l (bh (zO2 _ rfl));have n1:∀a o,H a=some o->a≠h'.objs.size:=λa o e z=>by rw[z,hf]at e;cases e
  refine h _ c' _ _ F (T.same λa o _ e=>by rw[zj (n1 a o e)];exact e) (λa o _ e=>by rw[zj (n1 a o e)];exact e) (λa x e=>⟨x,by rw[zj (n1 a _ e)];exact e⟩) hf zm ?_;rw[zj (n1 _ _ N)];exact N
end
structure xN (x y:Str)(params:Arguments)(scope:Scope):Prop where
 kind:scope.kind=.function
 co:scope.isCoroutine=false
 gen:scope.isGenerator=false
 px:scope.names.lookup x=some .local
 py:scope.names.lookup y=some .free
 nocell:∀z∈scope.names,z.2≠NameKind.cell
 only:∀z∈scope.names,z.2=NameKind.free->z.1=y
 ne:x≠y
def mC (P:Program)(w:World)(K:PySem.W.Frag)(mg:Str->Option Value)(base:Heap)(x y:Str)(scope:Scope)(f c cl:Addr)(A:Around)(outer:List Env)(s:Shared)(H:Hp):Cx where
 prog:=P
 w:=w
 K:=K
 mg:=mg
 base:=base
 A:=A.deeper (PySem.W.envX xr scope s.heap.objs.size f (.ref c) [(y,cl)])
 N:=[x,y]
 s₀:=s
 H₀:=H
 env:=PySem.W.envX xr scope s.heap.objs.size f (.ref c) [(y,cl)]
 outer:=outer
 stack:=PySem.W.envX xr scope s.heap.objs.size f (.ref c) [(y,cl)]::outer
 ex:=[]
 calm:=true
 fn:=λ_=>false
 pn:=[]
 xe:=λ_ _=>False
theorem iz {P:Program}{w:World}{K:PySem.W.Frag}{mg:Str->Option Value}{base:Heap}{x y:Str}{params:Arguments}{scope:Scope}{f c cl:Addr}{A:Around}{outer:List Env}{s:Shared}{H:Hp}{h':Heap}{tk:Nat}{v l:V}{u ul:Value}
  (S:xN x y params scope) (hd:A.handled=none) (m:uR P w K mg base A outer s H) (t:RelV v u) (D:RelV l ul) (hcl:s.heap.IsCell cl (some ul)) (r:H cl=none)
  (ns:h'.Ns s.heap.objs.size λz=>[(x,u)].reverse.lookup z) (k:∀b o,s.heap.get? b=some o->h'.get? b=some o):
  Inv (mC P w K mg base x y scope f c cl A outer s H) [] [some v,some l] H {s with heap:=h',toks:=tk}:=by
 have q:∀b:Addr,b∉(mC P w K mg base x y scope f c cl A outer s H).ex:=λb z=>absurd (show b∈([]:List Addr)from z) (by simp);have one:∀z d,(mC P w K mg base x y scope f c cl A outer s H).env.cells.lookup z=some d->z=y/\d=cl:=λz d h=>by
  have h:List.lookup z [(y,cl)]=some d:=h;rw[zT4]at h;split at h
  ·rename_i e;cases h;exact⟨eq_of_beq e,rfl⟩
  ·cases h
 have hit:(mC P w K mg base x y scope f c cl A outer s H).env.cells.lookup y=some cl:=by
  show List.lookup y [(y,cl)]=some cl;simp[zT4]
 have g:h'.IsCell cl (some ul):=by
  obtain⟨o,e1,B⟩:=hcl;exact⟨o,k _ _ e1,B⟩
 refine⟨⟨m.mod,S.kind,rfl,rfl,zN5 _,λa b d j n=>(one a d j).1.trans (one b d n).1.symm,λz hz=>?_,λz d hf _=>?_,λ_=>hd,Around.frames_deeper m.frames,.inr ⟨rfl,rfl⟩,λb z=>absurd z (q b),m.bs,m.bsz,λb _ _=>q b,λb z=>absurd z (q b),m.funs,m.frf⟩,
  rfl,m.bare,Un.kept k,⟨_,ns,λi z F j n E=>?_⟩,λz d h=>?_,m.hok.fresh (zN5 _),λz d h=>?_,λp C=>absurd (show p∈([]:List (Addr×Obj))from C) (by simp),m.hok.kept k,rfl⟩
 ·have hz:scope.names.lookup z=some .cell\/scope.names.lookup z=some .free:=hz;rcases hz with hz|hz
  ·exact absurd rfl (S.nocell _ (zU6 hz))
  ·have:z=y:=S.only _ (zU6 hz) rfl;subst this;exact⟨cl,hit⟩
 ·exact absurd (show false=true from hf) zP9
 ·have j:([x,y]:List Str)[i]?=some z:=j
  match i,j,n with
  |0,j,n=>
   cases j;cases n;exact⟨u,t,.inl ⟨S.px,by simp[zT4]⟩⟩
  |1,j,n=>
   cases j;cases n;exact⟨ul,D,.inr ⟨.inr S.py,cl,hit,g⟩⟩
  |i+2,j,n=>simp at j
 ·obtain⟨rfl,rfl⟩:=one z d h;exact⟨_,g⟩
 ·obtain⟨rfl,rfl⟩:=one z d h;exact r
theorem aK {P:Program}{w:World}{K:PySem.W.Frag}{mg:Str->Option Value}{base:Heap}{x y:Str}{params:Arguments}{body:Expr}{scope:Scope}{f c cl:Addr}{A:Around}{outer:List Env}{s:Shared}{H:Hp}{v l:V}{u ul:Value}{k:Nat}{Q:VK}{t:TE}
  (S:xN x y params scope) (hr:zN k A) (a:uR P w K mg base A outer s H) (hf:H f=some (kD f c xr params body scope [(y,cl)])) (j:H c=some (tG c)) (hcl:s.heap.IsCell cl (some ul)) (g:H cl=none) (i:RelV v u) (m:RelV l ul)
  (hb:∀pm ctv,bindArgs (PySem.W.kla_fn "<lambda>" xr params body scope [(y,cl)] pm (.ref c) ctv) ⟨[u],[]⟩=pure [(x,u)])
  (r:PE (mC P w K mg base x y scope f c cl A outer s H) body t) (hq:t [some v,some l] H Q):
  codeAny (model P w) A (.call (.ref f) ⟨[u],[]⟩) (CR CX0 outer P w H s Q E0) s:=by
 obtain⟨⟨pm,ctv,p⟩,_,_⟩:=a.hok _ _ hf;have cr:s.heap.CodeRec (.ref c) xr:=(a.hok _ _ j).1;have lim:s.heap.NoLimit:=a.mod.nolimit.keeps λb o e=>(a.bs b o e).1;refine PySem.W.kla_callFunE hr.depth p rfl S.co S.gen rfl cr ?_;rw[hb];refine zN1 ?_;refine wpAny_newFunctionEnv S.nocell (λz hz=>?_) (λh' ns sb=>?_) S.kind
 ·rw[zP8.mp hz];exact S.px
 ·have h:∀b o,s.heap.get? b=some o->h'.get? b=some o:=λb o e=>sb.extBut b o (zP1 (zO4 e)) (zM9 _ e);refine⟨lim.keeps h,PySem.W.kla_codeExpr ?_⟩;have I:=iz (tk:=s.toks+[(x,u)].length) (f:=f) (c:=c) S hr.hd a i m hcl g ns h;refine zS9 (r [] _ _ H _ I hq) (λC s' d=>?_) λe s' d=>d.elim;obtain⟨B,H',J,n,q⟩:=d;exact⟨B,H',J.os,J.bare,J.base,J.hok,n,q⟩
open PySem.W SortA
section
variable {X:Cx}{pins:List (Addr×Obj)}{σ:St}{H:Hp}{s:Shared}
def fR (X:Cx)(H1 a:Hp)(s1 s2:Shared):Prop:=∀b o,s1.heap.get? b=some o->H1 b=none->b∉frs X.stack->s2.heap.get? b=some o/\a b=none
structure fw (X:Cx)(pins:List (Addr×Obj))(σ:St)(H:Hp)(D kS:Addr)(e1:Nat)(ps:List (Int×Int))(i:Nat)(s':Shared):Prop where
 ex:∃(H':Hp) (ks:List Value) (xs:List V) (e:Nat),Inv X pins σ H' s'/\(∀a o,H a=some o->H' a=some o)/\s'.heap.get? D=some (seqObj "list" #[] e1)/\s'.heap.get? kS=some (seqObj "list" ks.toArray e)/\H' D=none/\H' kS=none/\Vals xs ks/\PrV H' xs (ps.take i)
theorem iK {A:Around}{E:Value->Shared->Prop}{vs:List Value}{ps:List (Int×Int)}{f D kS:Addr}{e1:Nat}{Q:PUnit->Shared->Prop}(hlen:vs.length=ps.length)(S:vs.length<64)(W:D∉frs X.stack)(T:kS∉frs X.stack)(hne:D≠kS)
  (N:∀H',H' kS=none->yX X pins H' kS)
  (d:∀i v,vs[i]?=some v->∀H1 s1,Inv X pins σ H1 s1->(∀a o,H a=some o->H1 a=some o)->
   wpAny (model X.prog X.w) A (call (.ref f) [v]) (λu s2=>∃t c,u=.ref t/\Inv X pins σ c s2/\(∀a o,H1 a=some o->c a=some o)/\c t=some (.tup [.int (at2 ps i).1,.int (at2 ps i).2])/\fR X H1 c s1 s2) (λ_ _=>False) s1)
  (h0:fw X pins σ H D kS e1 ps 0 s) (O:∀s',fw X pins σ H D kS e1 ps vs.length s'->Q PUnit.unit s'):
  wpAny (model X.prog X.w) A (forIn vs PUnit.unit λx __s=>do
   let __do_lift <-(call (.ref f) [x]).attempt
   match __do_lift with
    |Except.ok k=>do
     Builtin.List.listUpdate (.ref kS) λx=>x.push k
     pure (ForInStep.yield PUnit.unit)
    |Except.error e=>do
     rule "list.sort.key-raised"
     let made <-Builtin.List.listItems (.ref kS)
     Builtin.List.listUpdate (.ref kS) λx=>#[]
     letGo made.toList.reverse [e]
     Builtin.List.listUpdate (Value.ref D) λx=>vs.toArray
     throw e
     pure (ForInStep.yield PUnit.unit)) Q E s:=by
 refine ksk_fold (fw X pins σ H D kS e1 ps) vs 0 s h0 (λj x s' K r=>?_) (λs' r=>O s' (by simpa using r));obtain⟨H1,ks,xs,e,P,st,Y,Z,R,C,G,pr⟩:=r.ex;rw[Nat.zero_add]at pr ⊢;have n:j<ps.length:=by rw[<-hlen];exact(zN8.mp K).1
 have l:ks.length=j:=by rw[<-G.length,pr.len,zP7];lia
 refine zM8 (zZ7 (zS9 (d j x K H1 s' P st) (λu s2 U=>?_) λ_ _ z=>z.elim));obtain⟨t,c,rfl,M,h,J,kp⟩:=U;obtain⟨y,B⟩:=kp D _ Y R W;obtain⟨m,g⟩:=kp kS _ Z C T;refine zM8 (z54 m rfl (zN1 ⟨rfl,?_⟩) (by rw[zO3,l,zT1];lia) (by rw[Array.size_push,zO3,l,zT1];lia));obtain⟨F,hk⟩:∃F,(s2.heap.update kS (Obj.mapSeq λx=>x.push (Value.ref t))).get? kS=some (seqObj "list" (ks++[Value.ref t]).toArray F):=by
  have:=zY5 m λx=>x.push (Value.ref t);rw[List.push_toArray]at this;exact⟨_,this⟩
 have I:∀b o,b∉[kS]->s2.heap.get? b=some o->(s2.heap.update kS (Obj.mapSeq λx=>x.push (Value.ref t))).get? b=some o:=λb o nb q=>(zS4 _ _ (zS3 (by simpa using nb))).trans q;refine⟨c,ks++[Value.ref t],xs++[V.ref t],F,M.turnL (t':=s2.toks) I (λb hb=>by rw[zP8.mp hb];exact N c g),λa o q=>h a o (st a o q),I D _ (by simpa using hne) y,hk,B,g,G.append (.cons rfl .nil),?_⟩;rw[zZ3,zN2 n];refine PrV.app (pr.keep λa p q z=>h _ _ z) ?_;have L:at2 ps j=ps[j]:=by unfold at2;rw[zN3,zN2 n];rfl
 rw[L]at J;exact .cons J .nil
theorem lV {A:Around}{E:Value->Shared->Prop}{vs:List Value}{ps:List (Int×Int)}{f D:Addr}{n:Nat}{O:PySem.Fin->Shared->Prop}(I:Inv X pins σ H s)(U:s.heap.get? D=some (seqObj "list" vs.toArray n))(hlen:vs.length=ps.length)(k:vs.length<64)(fD:H D=none)
  (nD:D∉frs X.stack) (F:∀H',H' D=none->yX X pins H' D)
  (C:∀i v,vs[i]?=some v->∀H1 s1,Inv X pins σ H1 s1->(∀a o,H a=some o->H1 a=some o)->
   wpAny (model X.prog X.w) A (call (.ref f) [v]) (λu s2=>∃t T,u=.ref t/\Inv X pins σ T s2/\(∀a o,H1 a=some o->T a=some o)/\T t=some (.tup [.int (at2 ps i).1,.int (at2 ps i).2])/\fR X H1 T s1 s2) (λ_ _=>False) s1)
  (h:∀out H' s' c,Srt vs ps out->Inv X pins σ H' s'->(∀a o,H a=some o->H' a=some o)->s'.heap.get? D=some (seqObj "list" out.toArray c)->H' D=none->O (.done (.ret .none)) s'):
  wpAny (model X.prog X.w) A (ksk_tree D (.ref f) false) O E s:=by
 have hD:D<s.heap.objs.size:=zO4 U;have s1:=z00 s.heap D (Obj.mapSeq λ_=>(#[]:Array Value));obtain⟨e1,B⟩:∃e1,(s.heap.update D (Obj.mapSeq λ_=>(#[]:Array Value))).get? D=some (seqObj "list" #[] e1):=⟨_,zY5 U λ_=>#[]⟩;have r:(s.heap.update D (Obj.mapSeq λ_=>(#[]:Array Value))).objs.size=s.heap.objs.size:=z75 _ _ _;unfold ksk_tree;refine zM8 (listItems_at U rfl ?_);refine zM8 (z54 U rfl ?_ (by rw[zO3,zT1];exact kH k) (zO5 _));generalize a6:s.heap.update D (Obj.mapSeq λ_=>(#[]:Array Value))=h1 at s1 B r;refine zM8 (seqEpoch_at B rfl ?_);refine zM8 (z64 ?_ (by show vs.length<=_;rw[zT1];exact kH k));refine zM8 (wpAny_newList ?_ (zO5 _));refine zT0 ?_;show wpAny (model X.prog X.w) A (ksk_rest D (.ref f) false vs.toArray e1 (.ref (h1.push (seqObj "tuple" vs.toArray 0)).objs.size)) O E {s with heap:=(h1.push (seqObj "tuple" vs.toArray 0)).push (seqObj "list" #[] 0)};have K:(h1.push (seqObj "tuple" vs.toArray 0)).objs.size=s.heap.objs.size+1:=by rw[size_push',r]
 have y:((h1.push (seqObj "tuple" vs.toArray 0)).push (seqObj "list" #[] 0)).get? (h1.push (seqObj "tuple" vs.toArray 0)).objs.size=some (seqObj "list" #[] 0):=zO2 _ rfl;have J:((h1.push (seqObj "tuple" vs.toArray 0)).push (seqObj "list" #[] 0)).get? D=some (seqObj "list" #[] e1):=zM9 _ (zM9 _ B);have k1:∀b o,b∉[D]->s.heap.get? b=some o->((h1.push (seqObj "tuple" vs.toArray 0)).push (seqObj "list" #[] 0)).get? b=some o:=λb o hb e=>
  zM9 _ (zM9 _ ((s1.2 b (by simpa using hb)).trans e))
 have I0:Inv X pins σ H {s with heap:=(h1.push (seqObj "tuple" vs.toArray 0)).push (seqObj "list" #[] 0),toks:=s.toks}:=I.turnL k1 λb hb=>by rw[zP8.mp hb];exact F H fD
 generalize (h1.push (seqObj "tuple" vs.toArray 0)).push (seqObj "list" #[] 0)=S at y J k1 I0;generalize a5:(h1.push (seqObj "tuple" vs.toArray 0)).objs.size=kS at K y;have L:s.heap.objs.size<=kS:=by rw[K];exact zX8 _
 have fK:∀H',H' kS=none->yX X pins H' kS:=λH' hn=>I.fpOk L hn;have nK:(kS:Addr)∉frs X.stack:=λz=>by
  rcases zN6.mp (I.stkSub _ z)with q|q
  ·exact(I.fpOk (H':=λ_=>none) L rfl).2.1 q
  ·exact(I.fpOk (H':=λ_=>none) L rfl).2.2.1 q
 have hne:D≠kS:=zP1 (zN4 hD L);have W:H kS=none:=I.hok.fresh L;unfold ksk_rest;refine zM8 (zW9 ?_);rw[z96];refine zM8 (iK (s:={s with heap:=S}) hlen k nD nK hne fK C ⟨H,[],[],0,I0,λ_ _ q=>q,J,y,fD,W,.nil,.nil⟩ λs' hI=>?_);obtain⟨H1,ks,xs,e,I1,st,eD,eK,M,V,rv,pr⟩:=hI.ex;rw[hlen,zU3]at pr;have j:ks.length=vs.length:=by rw[<-rv.length,pr.len,hlen]
 refine zM8 (listItems_at eK rfl ?_);unfold ksk_end;dsimp only;rw[if_neg (by decide)];have P:Prs s'.heap ks ps:=pr.prs I1 rv;have tail:∀(st':SortSt) (out:List Value),out.length<=64->Srt vs ps out->failedOf st'=none->(arrOf st').map (·.2)=out.toArray->wpAny (model X.prog X.w) A (ksk_tail D false e1 (.ref kS) st') O E s':=by
  intro st' out lo so hf G;unfold ksk_tail;dsimp only;rw[G,hf];refine zM8 (z54 eK rfl ?_ (by rw[zO3,j,zT1];exact kH k) (zO5 _));have s3:=z00 s'.heap kS (Obj.mapSeq λ_=>(#[]:Array Value));have m:(s'.heap.update kS (Obj.mapSeq λ_=>(#[]:Array Value))).get? D=some (seqObj "list" #[] e1):=(s3.2 D hne).trans eD;have I3:Inv X pins σ H1 {s' with heap:=s'.heap.update kS (Obj.mapSeq λ_=>(#[]:Array Value)),toks:=s'.toks}:=I1.turnL (ch:=[kS]) (λb o hb q=>(s3.2 b (by simpa using hb)).trans q) λb hb=>by rw[zP8.mp hb];exact fK H1 V
  generalize s'.heap.update kS (Obj.mapSeq λ_=>(#[]:Array Value))=h3 at m I3;refine zM8 (wpAny_letGo ?_);refine zM8 (seqEpoch_at m rfl ?_);rw[if_neg (by decide)];refine zM8 (z54 m rfl ?_ (zO5 _) (by rw[zO3,zT1];lia));have s4:=z00 h3 D (Obj.mapSeq λ_=>out.toArray);obtain⟨Z,a0⟩:∃Z,(h3.update D (Obj.mapSeq λ_=>out.toArray)).get? D=some (seqObj "list" out.toArray Z):=⟨_,zY5 m λ_=>out.toArray⟩;simp only[bne_self_eq_false,zY2,z49];have I4:=I3.turnL (ch:=[D]) (t':=s'.toks) (h':=h3.update D (Obj.mapSeq λ_=>out.toArray)) (λb o hb q=>(s4.2 b (by simpa using hb)).trans q) λb hb=>by rw[zP8.mp hb];exact F H1 M
  exact zN1 (h out H1 _ Z so I4 st a0 M)
 by_cases g:vs.toArray.size<2
 ·rw[if_pos g,if_pos g];have N:vs.length<2:=by simpa using g
  refine zM8 (zN1 ?_);refine zM8 (zN1 ?_);dsimp only;have so:Srt vs ps vs:=by
   match vs,ps,N,hlen with
   |[],[],_,_=>exact⟨[],rfl,rfl,λ_ h=>by simp at h,.refl _,.nil⟩
   |[v],[p],_,_=>exact⟨[0],rfl,rfl,λi h=>by simp at h;subst h;simp,.refl _,by simp⟩
   |_::_::_,_,N,_=>simp only[zQ2]at N;exact(zG5 N).elim
  refine tail _ vs (by lia) so rfl ?_;rw[if_neg (by decide)];show(ks.toArray.zip vs.toArray).map (·.2)=vs.toArray;apply Array.toList_inj.mp;rw[Array.toList_map,Array.toList_zip];exact List.map_snd_zip (zO9 j.symm)
 ·rw[if_neg g,if_neg g,if_neg (by decide)];have S:2<=vs.length:=by simp at g;exact g
  have ask:=lQ (prog:=X.prog) (w:=X.w) (A:=A) (s:=s') (by rw[j];exact S) P
   (R:=λp l=>Srt vs ps (p.toList.map λi=>vs.getD i Value.none)/\l=s') (λix a b c d=>⟨⟨ix,by simp,a,b,c,d⟩,rfl⟩)
  refine zM8 (zS9 ask (λκ s0 hk=>?_) λ_ _ x=>x.elim);rw[j]at hk;refine zM8 (zS9 (kat_run (Q:=λst' l=>∃p:Array Nat,p.size=vs.length/\arrOf st'=p.map (kas_item (ks.toArray.zip vs.toArray))/\failedOf st'=none/\Srt vs ps (p.toList.map λi=>vs.getD i Value.none)/\l=s')
   j S k (λp' st' l a1 a2 a3 a4=>⟨p',a1,a2,a3,a4⟩) hk) ?_ λ_ _ e=>e)
  rintro⟨⟨⟩,st'⟩ l ⟨p,hp,Y,hf,so,rfl⟩;dsimp only;exact tail st' _ (by rw[so.len,<-hlen];exact zR4 k) so hf (kat_snds j Y)
end
section
variable {X:Cx}{pins:List (Addr×Obj)}{σ:St}{H:Hp}{s:Shared}
theorem Inv.adopt {D:Addr}{o:HO}(I:Inv X pins σ H s)(fp:yX X pins H D)(new:zT X.prog X.w (upd H D o) s.heap D o):Inv X pins σ (upd H D o) s:=by
 have a:=fp.1;have st:∀b u,H b=some u->upd H D o b=some u:=λb u e=>by rw[zj (zo e a)];exact e
 have:=I.step (g':=s.gens) (t':=s.toks) (d':=s.drawn) (h':=s.heap) (H':=upd H D o) (ch:=[D]) (λb hb=>by rw[zP8.mp hb];exact⟨fp.2.2.2.1,fp.2.1,fp.2.2.2.2.1,fp.2.2.2.2.2⟩) (λb u _ _ _ e _=>e) (λb u _ _ _ e _=>⟨u.slots,e⟩) (λb u hb e n=>by rw[zj (by simpa using hb)];exact n)
  (λb u _ e=>⟨u,e⟩) (λb xs e=>st b _ e) (λb u xs e=>st b _ e) (λb ps e=>⟨#[],by rw[st b _ e];simp⟩) (λm hm=>hm) (λb u e=>?_) I.bare
 ·exact this
 ·by_cases hb:b=D
  ·subst hb;rw[zm]at e;cases e;exact new
  ·rw[zj hb]at e;exact(I.hok b u e).stay (λc v _ q=>q) (λc q=>st c _ q) λc xs q=>st c _ q
theorem pb {A:Around}{E:Value->Shared->Prop}{l f:Addr}{vs:List Value}{ps:List (Int×Int)}{Q:Value->Shared->Prop}(I:Inv X pins σ H s)(C:s.heap.IsList l vs.toArray)(hlen:vs.length=ps.length)(j:vs.length<64)
  (k:∀i v,vs[i]?=some v->∀H1 s1,Inv X pins σ H1 s1->(∀a o,H a=some o->H1 a=some o)->
   wpAny (model X.prog X.w) A.in1.in1 (call (.ref f) [v]) (λu s2=>∃t r,u=.ref t/\Inv X pins σ r s2/\(∀a o,H1 a=some o->r a=some o)/\r t=some (.tup [.int (at2 ps i).1,.int (at2 ps i).2])/\fR X H1 r s1 s2) (λ_ _=>False) s1)
  (h:∀D out H' s' c,s.heap.objs.size<=D->Srt vs ps out->Inv X pins σ H' s'->(∀a o,H a=some o->H' a=some o)->s'.heap.get? D=some (seqObj "list" out.toArray c)->H' D=none->yX X pins H' D->Q (.ref D) s'):
  wpAny (model X.prog X.w) A (call (.builtin "sorted") [.ref l] [("key",.ref f)]) Q E s:=by
 refine call_function_entry_kw kind_sorted plain_sorted entry_sorted (ksk_s1 _ _) ?_;unfold Builtin.«sorted»;refine zM8 (m:=checkCount "sorted" 1 1 _) (zN1 ?_);refine zM8 (collect_list C ?_ (by rw[zT1];exact kH j));refine zM8 (wpAny_newList ?_ (by rw[zT1];exact kH j));have d:((s.heap.push (seqObj "list" #[] 0)).update s.heap.objs.size (Obj.mapSeq (·++vs.toArray))).objs.size=s.heap.objs.size+1:=by rw[z75,size_push']
 have p:(((s.heap.push (seqObj "list" #[] 0)).update s.heap.objs.size (Obj.mapSeq (·++vs.toArray))).push (seqObj "list" vs.toArray 0)).get? (s.heap.objs.size+1)=some (seqObj "list" vs.toArray 0):=by rw[<-d];exact zO2 _ rfl
 have keep:∀b o,s.heap.get? b=some o->(((s.heap.push (seqObj "list" #[] 0)).update s.heap.objs.size (Obj.mapSeq (·++vs.toArray))).push (seqObj "list" vs.toArray 0)).get? b=some o:=λb o q=>by
  have g:b<s.heap.objs.size:=zO4 q;rw[z68 _ _ _ (by rw[d];exact zP1 (zW3 g)),Heap.get?_update_ne _ _ _ _ (zP1 g),z68 _ _ _ (zP1 g)];exact q
 show wpAny _ _ _ _ _ {s with heap:=((s.heap.push (seqObj "list" #[] 0)).update s.heap.objs.size (Obj.mapSeq (·++vs.toArray))).push (seqObj "list" vs.toArray 0)};rw[d];have y:Inv X pins σ H {s with heap:=((s.heap.push (seqObj "list" #[] 0)).update s.heap.objs.size (Obj.mapSeq (·++vs.toArray))).push (seqObj "list" vs.toArray 0),toks:=s.toks}:=I.kept keep;have n:s.heap.objs.size<=s.heap.objs.size+1:=zX8 _;refine zM8 (zT0 (wpAny_call_entry_kw slot_list_sort ⟨_,p,rfl⟩ entry_list_sort ?body (ksk_l1 _ _)))
 case body=>
  rw[ksk_t1];refine lV (s:={s with heap:=((s.heap.push (seqObj "list" #[] 0)).update s.heap.objs.size (Obj.mapSeq (·++vs.toArray))).push (seqObj "list" vs.toArray 0)}) y p hlen j (I.hok.fresh n) (λz=>?_) (λH' hn=>I.fpOk n hn) k λout H' s' c so B st e x=>?_
  ·rcases zN6.mp (I.stkSub _ z)with q|q
   ·exact(I.fpOk (H':=λ_=>none) n rfl).2.1 q
   ·exact(I.fpOk (H':=λ_=>none) n rfl).2.2.1 q
  ·exact⟨_,rfl,zN1 ⟨_,rfl,h _ out H' s' c n so B st e x (I.fpOk n x)⟩⟩
end
section
variable {X:Cx}{a:Expr}{p pos kpos lpos p1 p2 p3 p4 p5 p6:Pos}{n1:Nat}{x y:Str}{params:Arguments}{scope:Scope}
abbrev pairE (x y:Str)(n1:Nat)(p1 p2 p3 p4 p5 p6:Pos):Expr:=.Tuple [.Subscript (.Name y p1) (.Name x p2) p3,.UnaryOp .USub (.Name x p4) p5] n1 p6
def keyOf (zs:List Int)(n:Int):Int×Int:=(zs.getD n.toNat 0,-n)
theorem ze8 {P:Program}{w:World}{K:PySem.W.Frag}{mg:Str->Option Value}{base:Heap}{f c cl l:Addr}{A:Around}{outer:List Env}{s:Shared}{H:Hp}{u ul:Value}{k:Nat}{n:Int}{zs:List Int}
  (S:xN x y params scope) (hr:zN k A) (r:uR P w K mg base A outer s H) (hf:H f=some (kD f c xr params (pairE x y n1 p1 p2 p3 p4 p5 p6) scope [(y,cl)])) (m:H c=some (tG c)) (hcl:s.heap.IsCell cl (some ul)) (b:H cl=none) (e:RelV (.int n) u) (o:RelV (.ref l) ul)
  (hb:∀pm ctv,bindArgs (PySem.W.kla_fn "<lambda>" xr params (pairE x y n1 p1 p2 p3 p4 p5 p6) scope [(y,cl)] pm (.ref c) ctv) ⟨[u],[]⟩=pure [(x,u)])
  (hdx:(x == ("__debug__":Str))=false) (hdy:(y == ("__debug__":Str))=false) (hcx:(x == ("__classdict__":Str))=false) (hcy:(y == ("__classdict__":Str))=false)
  (g:SqL K H l (zs.map V.int)) (h0:0<=n) (h:n<zs.length):
  codeAny (model P w) A (.call (.ref f) ⟨[u],[]⟩) (CR CX0 outer P w H s (λv H'=>∃t,v=.ref t/\H t=none/\H'=upd H t (.tup [.int (keyOf zs n).1,.int (keyOf zs n).2])) E0) s:=by
 obtain⟨j,rfl⟩:=zZ8 h0;have d:j<zs.length:=(om9 h);refine aK S hr r hf m hcl b e o hb (t:=_) (fM (zA (vA xi (yw (i:=1) rfl (Or.inr (Or.inr S.py)) hdy hcy) (yw (i:=0) rfl (Or.inl S.px) hdx hcx) (λ_ _=>rfl)) (zA (zi4 cn (yw (i:=0) rfl (Or.inl S.px) hdx hcx)) yh))) ?_;refine⟨_,rfl,_,rfl,l,_,_,.int (zs.getD j 0),rfl,rfl,g,wV ?_,_,rfl,_,rfl,(by show 2<=sizeLine;decide),λt q=>⟨t,rfl,q,?_⟩⟩
 ·rw[zO8,zN2 d,zN3,zN2 d];rfl
 ·simp[keyOf]
def uz (ns zs ms:List Int):Prop:=ms.Perm ns/\ms.Pairwise λm k=>lx (keyOf zs k) (keyOf zs m)=false
theorem ck {ns zs:List Int}{vs out:List Value}(r:Vals (ns.map V.int) vs)(h:Srt vs (ns.map (keyOf zs)) out):∃ms,uz ns zs ms/\Vals (ms.map V.int) out:=by
 obtain⟨b,rfl,d,hb,c,hw⟩:=h;have at_:∀i∈b,at2 (ns.map (keyOf zs)) i=keyOf zs (ns.getD i 0):=λi hi=>by
  have:=hb i hi;rw[zN0]at this;unfold at2;rw[zN3,zO8,zN2 this,zN3,zN2 this];rfl
 have em:b.map (at2 (ns.map (keyOf zs)))=(b.map λi=>ns.getD i 0).map (keyOf zs):=by
  rw[z60];exact List.map_congr_left at_
 rw[em]at c hw;have inv:∀l:List Int,(l.map (keyOf zs)).map (λq=>-q.2)=l:=λl=>by
  rw[z60];have:((λq:Int×Int=>-q.2)∘keyOf zs)=id:=by funext n;simp[keyOf]
  rw[this,List.map_id]
 refine⟨b.map λi=>ns.getD i 0,⟨?_,List.pairwise_map.mp hw⟩,?_⟩
 ·have:=c.map (λq=>-q.2)
  rwa [inv,inv]at this
 ·clear em c hw d
  induction b with
  |nil=>exact .nil
  |cons i b e=>
   refine .cons ?_ (e (λk hk=>hb k (zN7 _ hk)) λk hk=>at_ k (zN7 _ hk));have hi:=hb i zO1;rw[zN0]at hi;refine nQ r i _ ?_;show _=some (V.int (ns.getD i 0));rw[zO8,zN2 hi,zN3,zN2 hi];rfl
theorem wc {K:PySem.W.Frag}{H H':Hp}{a:Addr}{xs:List V}(h:SqL K H a xs)(k:∀a o,(∀ps,o≠.tbl ps)->H a=some o->H' a=some o):SqL K H' a xs:=by
 rcases h with(h|⟨o,h⟩)|h
 ·exact .inl (.inl (k _ _ (λ_ z=>by cases z) h))
 ·exact .inl (.inr ⟨o,k _ _ (λ_ z=>by cases z) h⟩)
 ·exact .inr h
theorem kd {ta:TE}{j k:Nat}{c:Addr}(S:xN x y params scope)(hr:zN (k+2) X.A)(hg:Gl X "sorted")(hm:X.mg "sorted"=none)(hN:X.N[j]?=some y)(hy:X.env.scope.names.lookup y=some .cell)
  (hcl:∀cl,X.env.cells.lookup y=some cl->closureFor scope X.env=pure [(y,cl)]) (hgl:X.env.globals=mainGlobals) (hco:X.env.code=.ref c) (hhd:PySem.W.CodeHd X.base c yn) (hbi:X.base.BuiltinsAt X.mg yn) (hdf:defaultsOf params X.env=([],[])) (hq:X.env.qual++("<lambda>":Str)=xr) (hne:mainGlobals≠yn)
  (hb:∀u cl c' pm ctv,bindArgs (PySem.W.kla_fn "<lambda>" xr params (pairE x y n1 p1 p2 p3 p4 p5 p6) scope [(y,cl)] pm (.ref c') ctv) ⟨[u],[]⟩=pure [(x,u)])
  (hdx:(x == ("__debug__":Str))=false) (hdy:(y == ("__debug__":Str))=false) (hcx:(x == ("__classdict__":Str))=false) (hcy:(y == ("__classdict__":Str))=false) (ha:PE X a ta)
  (he:starEach [a] X.env=(false,eval a X.env)::starEach [] X.env:=by rfl) (b0:backTo pos (starEach [a] X.env)=(false,eval a X.env)::backTo pos (starEach [] X.env):=by rfl) (hpl:((backTo pos (starEach [a] X.env)).any λx=>x.1)=false:=by rfl):
  PE X (.Call (.Name "sorted" p) [a] [⟨some "key",.Lambda params (pairE x y n1 p1 p2 p3 p4 p5 p6) scope lpos,kpos⟩] pos)
   (λσ H Q=>ta σ H λv H1=>∃l ns L zs,v=.ref l/\SqL X.K H1 l (ns.map V.int)/\σ[j]?=some (some (.ref L))/\SqL X.K H1 L (zs.map V.int)/\ns.length<64/\(∀n∈ns,0<=n/\n<zs.length)/\TabAt H1/\
    ∀D H' ms,H1 D=none->H' D=some (.lst (ms.map V.int))->uz ns zs ms->TabAt H'->(∀a o,a≠yn->H1 a=some o->H' a=some o)->Q (.ref D) H'):=by
 intro pins s σ H Q I h;refine z37 (xD I hg hm boot_sorted ?_)
 let Pd:V->Hp->Prop:=λv H1=>∃l ns L zs,v=.ref l/\SqL X.K H1 l (ns.map V.int)/\σ[j]?=some (some (.ref L))/\SqL X.K H1 L (zs.map V.int)/\ns.length<64/\(∀n∈ns,0<=n/\n<zs.length)/\TabAt H1/\
    ∀D H' ms,H1 D=none->H' D=some (.lst (ms.map V.int))->uz ns zs ms->TabAt H'->(∀a o,a≠yn->H1 a=some o->H' a=some o)->Q (.ref D) H'
 refine callWith_kw (thn (zA ha yh he pos pins s σ H (λvs H1=>match vs with|[v]=>Pd v H1|_=>False) I h) λus s1 a9=>?_) b0 hpl;obtain⟨vs,H1,I1,r1,q1⟩:=a9
 match vs,r1,q1 with
 |[v],r1,q1=>
  obtain⟨u,rfl,ru⟩:=vals1 r1;obtain⟨l,ns,L,zs,rfl,hS,U,hZ,R,a1,T,q⟩:=(show Pd v H1 from q1);obtain⟨m,hn,hl⟩:=id I1.loc;obtain⟨ul,rl,lk⟩:=hl j y _ hN U (.inr (.inl hy));obtain⟨cl,G,a7⟩:∃cl,X.env.cells.lookup y=some cl/\s1.heap.IsCell cl (some ul):=by
   rcases lk with⟨z,_⟩|⟨_,cl,z1,z2⟩
   ·have z:X.env.scope.names.lookup y=some .local:=z;rw[hy]at z;cases z
   ·exact⟨cl,z1,z2⟩
  show wpAny _ _ (evalAll ((do let v <-eval (.Lambda params (pairE x y n1 p1 p2 p3 p4 p5 p6) scope lpos) X.env;standAt pos;pure v)::[])) _ _ s1;refine wpAny_evalAll_cons (zM8 (fV I1 (hcl cl G) hgl hco hhd hbi hdf hq hne T λf c' H2 s2 I2 T2 O a2 hf M F=>zM8 (wpAny_standAt (zN1 (wpAny_evalAll_nil ?_)))));cases ru;show wpAny _ _ (call (.builtin "sorted") [.ref l] [("key",.ref f)]) _ _ s2;have w:∀a o,(∀ps,o≠.tbl ps)->H1 a=some o->H2 a=some o:=λa o no e=>O a o (λz=>by
   obtain⟨ps,t1,_⟩:=T.ex;rw[z,t1]at e;cases e;exact no _ rfl) e
  have S2:=wc hS w;have Z2:=wc hZ w;obtain⟨its,r,ht,hz⟩:=I2.list S2;have B:its.length=ns.length:=by rw[<-r.length,zN0]
  refine pb (ps:=ns.map (keyOf zs)) I2 ht.isList (by rw[zN0];exact B) (zP5 (zO9 B) R) (λi v hv H3 s3 I3 w=>?_) λD out H' s' c0 lD so I' st e fD fp=>?_
  ·have hi:i<ns.length:=by rw[<-B];exact(zN8.mp hv).1
   have rv:RelV (.int ns[i]) v:=by
    have:=nQ r i (.int ns[i]) (by rw[zO8,zN2 hi];rfl)
    rwa [zN3,hv]at this
   obtain⟨m3,b2,a0⟩:=id I3.loc;obtain⟨a4,a6,a8⟩:=a0 j y _ hN U (.inr (.inl hy));have J:s3.heap.IsCell cl (some a4):=by
    rcases a8 with⟨z,_⟩|⟨_,b1,z1,z2⟩
    ·have z:X.env.scope.names.lookup y=some .local:=z;rw[hy]at z;cases z
    ·rw[G]at z1;cases z1;exact z2
   have P:=a1 ns[i] (zS7 hi);have ek:at2 (ns.map (keyOf zs)) i=keyOf zs ns[i]:=by
    unfold at2;rw[zN3,zO8,zN2 hi];rfl
   rw[ek];have Z3:=wc Z2 λa o _ e=>w a o e;refine wpAny_call (z44 (ze8 S hr.in1.in1 I3.env0.in1.in1 (w _ _ M) (w _ _ F) J (I3.freeC y cl G) rv a6 (λpm ctv=>hb _ _ _ pm ctv) hdx hdy hcx hcy Z3 P.1 P.2) λrr s4 C=>?_);cases rr with
   |error e=>exact False.elim C
   |ok fl=>
    cases fl with
    |next=>exact False.elim C
    |brk=>exact False.elim C
    |cont=>exact False.elim C
    |ret u4=>
     obtain⟨v4,H4,os,bare,un,hok,r4,t,rfl,a3,Z⟩:=C;cases r4;obtain⟨hh,g,d,tk,a5⟩:=s4;obtain rfl:a5=s3.os:=os;refine⟨t,H4,rfl,I3.call (h':=hh) (g':=g) (d':=d) (t':=tk) (ch:=[]) un hok bare (λb z=>absurd z (by simp)),λa o e=>?_,by rw[Z];exact zm,λb o e n nf=>⟨un.keep b o e n nf (by simp),un.free b o e n (by simp)⟩⟩;rw[Z,zj (zo e a3)];exact e
  ·obtain⟨ms,sm,rm⟩:=ck r so;have nD:∀a o,H' a=some o->a≠D:=λa o e z=>by rw[z,fD]at e;cases e
   have E:H2 D=none:=I2.hok.fresh lD;have Y:∀a o,H2 a=some o->upd H' D (.lst (ms.map V.int)) a=some o:=λa o e=>by rw[zj (nD a o (st a o e))];exact st a o e
   refine⟨.ref D,upd H' D (.lst (ms.map V.int)),I'.adopt fp ⟨?_,out,c0,rm,e⟩,rfl,q D _ ms ?_ zm sm (T2.same λa o _ e=>Y a o e) λa o no e=>Y a o (O a o no e)⟩
   ·rw[zN0,sm.1.length_eq,zT1];exact kH R
   ·cases z:H1 D with
    |none=>rfl
    |some o=>
     by_cases nt:∀ps,o≠.tbl ps
     ·rw[w D o nt z]at E;cases E
     ·simp only[Classical.not_forall,Classical.not_not]at nt;obtain⟨qs,rfl⟩:=nt;obtain⟨b3,w'⟩:=a2 D qs z;rw[w']at E;cases E
end
section
variable {X:Cx}{α:Ev}{p q pos:Pos}{a b:Expr}
theorem vZ {G:Hp}:∀ns:List Int,AVs G (ns.map V.int) (ns.map .int)
 |[]=>.nil
 |n::ns=>.cons (.int n) (vZ ns)
theorem nv {Q:List PyData->Prop}(D:X.calm=true)(hg:Gl X "list")(hm:X.mg "list"=none)(f:Gl X "range")(t:X.mg "range"=none)(h:EvD X α a λx=>EvD X α b λy=>∃i j,x=.int i/\y=.int j/\(-(2 ^ 62)<=i/\i<2 ^ 62/\-(2 ^ 62)<=j/\j<2 ^ 62)/\(j-i).toNat<=1000/\Q ((zp i (j-i).toNat).map .int))
  (he:starEach [.Call (.Name "range" q) [a,b] [] p] X.env=(false,eval (.Call (.Name "range" q) [a,b] [] p) X.env)::starEach [] X.env:=by rfl) (e:starEach [a,b] X.env=(false,eval a X.env)::starEach [b] X.env:=by rfl) (n:starEach [b] X.env=(false,eval b X.env)::starEach [] X.env:=by rfl)
  (hpl:(backTo p (starEach [b] X.env)).any (·.1)=false:=by rfl) {K:Pos}:EvL X α (.Call (.Name "list" K) [.Call (.Name "range" q) [a,b] [] p] [] pos) Q:=λF σ H R m k=>by
 refine⟨_,wX (qq D) hg hm boot_list (zA (wX nZ f t boot_range (zA zf (zA zf yh n) e) (he:=e) (hpl:=hpl)) yh he) (he:=he),?_⟩;refine h F σ H _ m λx O H1 C t1 A B=>?_;have m1:=m.kz A t1;refine C F σ H1 _ m1 λy N g G w v L=>?_;have m2:=m1.kz v w;obtain⟨i,j,rfl,rfl,⟨M,E,J,I⟩,hz,q⟩:=G;cases B.int_inv;cases L.int_inv;refine⟨i,j,rfl,λr hr=>?_⟩;refine⟨r,i,j,rfl,zm,⟨M,E,J,I⟩,zR4 (yk hz),by lia,λl d=>?_⟩;have s:l≠r:=λz=>by rw[z,zm]at d;cases d
 have c:g l=none:=by rw[zj s]at d;exact d
 have u:=A.trans v;have s1:zt g (upd (upd g r (.rng i j)) l (.lst ((zp i (j-i).toNat).map V.int))):=(zH hr).trans (zH d);refine k _ _ _ q (w.same s1) (u.trans (Kz.of_same s1)) ⟨l,_,rfl,?_,zm,vZ _⟩;cases z:H l with
 |none=>rfl
 |some o=>rw[u l o z (m.tp.nt (ow0 (m2.fresh c)))]at c;cases c
end
section
variable {X:Cx}{α:Ev}{p pos:Pos}{a b:Expr}{Q:PyData->Prop}
end
theorem AVs.ints {H:Hp}{xs:List V}{ns:List Int}(h:AVs H xs (ns.map .int)):xs=ns.map V.int:=by
 induction ns generalizing xs with
 |nil=>cases h;rfl
 |cons n ns b=>cases h with
  |cons h a=>rw[zR6,b a,h.int_inv]
section
variable {X:Cx}{α:Ev}{a:Expr}{p pos kpos lpos p1 p2 p3 p4 p5 p6:Pos}{n1:Nat}{x y:Str}{params:Arguments}{scope:Scope}
structure bD (X:Cx)(c:Addr)(x y:Str)(n1:Nat)(p1 p2 p3 p4 p5 p6:Pos)(params:Arguments)(scope:Scope):Prop where
 S:xN x y params scope
 hy:X.env.scope.names.lookup y=some .cell
 hcl:∀cl,X.env.cells.lookup y=some cl->closureFor scope X.env=pure [(y,cl)]
 hgl:X.env.globals=mainGlobals
 hco:X.env.code=.ref c
 hhd:PySem.W.CodeHd X.base c yn
 hbi:X.base.BuiltinsAt X.mg yn
 hdf:defaultsOf params X.env=([],[])
 hq:X.env.qual++("<lambda>":Str)=xr
 hne:mainGlobals≠yn
 hb:∀u cl c' pm ctv,bindArgs (PySem.W.kla_fn "<lambda>" xr params (pairE x y n1 p1 p2 p3 p4 p5 p6) scope [(y,cl)] pm (.ref c') ctv) ⟨[u],[]⟩=pure [(x,u)]
 hdx:(x == ("__debug__":Str))=false
 hdy:(y == ("__debug__":Str))=false
 hcx:(x == ("__classdict__":Str))=false
 hcy:(y == ("__classdict__":Str))=false
theorem kb {j k:Nat}{c:Addr}{Q:List PyData->Prop}(T:bD X c x y n1 p1 p2 p3 p4 p5 p6 params scope)(hr:zN (k+2) X.A)(hg:Gl X "sorted")(hm:X.mg "sorted"=none)(K:X.N[j]?=some y)
  (h:EvD X α a λd=>∃ns zs:List Int,d=.list (ns.map .int)/\α[j]?=some (some (.dat (.list (zs.map .int))))/\ns.length<64/\(∀n∈ns,0<=n/\n<zs.length)/\∀ms,uz ns zs ms->Q (ms.map .int))
  (he:starEach [a] X.env=(false,eval a X.env)::starEach [] X.env:=by rfl) (u:backTo pos (starEach [a] X.env)=(false,eval a X.env)::backTo pos (starEach [] X.env):=by rfl) (hpl:((backTo pos (starEach [a] X.env)).any λx=>x.1)=false:=by rfl):
  EvL X α (.Call (.Name "sorted" p) [a] [⟨some "key",.Lambda params (pairE x y n1 p1 p2 p3 p4 p5 p6) scope lpos,kpos⟩] pos) Q:=λF σ H R m k=>by
 refine⟨_,kd (j:=j) T.S hr hg hm K T.hy T.hcl T.hgl T.hco T.hhd T.hbi T.hdf T.hq T.hne T.hb T.hdx T.hdy T.hcx T.hcy zf he u hpl,?_⟩;refine h F σ H _ m λd O H1 J t1 w E=>?_;have m1:=m.kz w t1;obtain⟨ns,zs,rfl,hz,r,s,q⟩:=J;obtain⟨l,xs,rfl,g1,g2⟩:=E.lst_inv;obtain⟨v,s1,s2⟩:=m1.dat j _ hz;obtain⟨M,ys,rfl,g3,L⟩:=s2.lst_inv;cases g2.ints;cases L.ints;refine⟨l,ns,M,zs,rfl,SqL.of (zi g1).2,s1,SqL.of (zi g3).2,r,s,t1.tab,λD H' ms g f B G kp=>?_⟩;have i:∀a xs,H1 a=some (.lst xs)->H' a=some (.lst xs):=λa xs e=>kp a _ (λz=>by
  obtain⟨ps,e1,_⟩:=t1.tab.ex;rw[z,e1]at e;cases e) e
 have kz:Kz F H1 H':=λx o e n=>kp x o n.2 e;refine k _ _ H' (q ms B) ⟨G,t1.ot,λt b c e=>⟨?_,(t1 t b c e).2⟩⟩ (w.trans kz) ⟨D,_,rfl,?_,f,vZ _⟩
 ·obtain⟨n,bs,cs,n1,e1,I,C,l1,l2⟩:=(t1 t b c e).1.ex;exact⟨n,bs,cs,n1,i _ _ e1,i _ _ I,i _ _ C,l1,l2⟩
 ·cases z:H D with
  |none=>rfl
  |some o=>rw[w D o z (m.tp.nt (ow0 (m1.fresh g)))]at g;cases g
end
section
variable {P:Program}{w:World}{K:PySem.W.Frag}{mg:Str->Option Value}{base:Heap}
theorem zL0 {x qual:Str}{st:Stmt}{f:Addr}{N ps:List Str}{k:Nat}{φ:List A->(A->Prop)->Prop}{oc:Value}{od an:Option Addr}{osl:Array (Option Value)}{kV doc pm cdv ct:Value}
  (n:K.lookup f=some ⟨oc,od,.func (PySem.W.fnOf x qual (zP st) (zv st) (zg st) .none kV doc pm an cdv ct),osl⟩) (i:PySem.W.codeIn K cdv qual=true) (S:zW N ps (zg st)) (hlen:∀as Q,φ as Q->as.length=ps.length)
  (c:∀(d:Around) (outer:List Env) (s:Shared) (H:Hp) (E:XK) (as:List A) (Q:A->Prop),zN k (d.deeper (envOfC qual (zg st) s.heap.objs.size f cdv))->φ as Q->
   SvS (wx CX0 P w K mg base N qual (zg st) f cdv d outer s H E).nox (as.map some++List.replicate (N.length-as.length) none) (zv st) {nx:=λ_=>Q (.dat .none),rt:=Q}):yK P w K mg base CX0 (k+1) f (PySem.W.fnOf x qual (zP st) (zv st) (zg st) .none kV doc pm an cdv ct) ps (spA φ):=by
 refine eQ n i S (λvs H Q E h=>?_) (λd outer s H vs l E hr h=>?_)
 ·obtain⟨F,as,Q',_,_,_,g,b,_⟩:=h;rw[g.length,hlen as _ b]
 ·obtain⟨F,as,Q',e,t,o,g,b,j⟩:=h;have:=c d outer s H E as Q' hr b F _ H {nx:=λ_ H'=>l .non H',rt:=l} (M.start e t o g) ⟨λα σ H' m q=>?_,λa v H' r q=>j a v H' q r,λ_ _ _ _ z=>z.elim,λ_ _ _ _ z=>z.elim⟩
  ·obtain⟨t,h,q⟩:=this;exact⟨t,h.nox,q⟩
  ·exact j _ _ _ q ⟨m.tp,m.keep,.non⟩
end
section
variable {X:Cx}{α:Ev}{Q:PyData->Prop}{a b:Expr}{pos:Pos}
end
theorem oA (c:Int)(n:Nat):zp c (n+1)=zp c n++[c+(n:Nat)]:=by simp[zp,List.range_succ]
theorem zK {c m:Int}{n:Nat}:m∈zp c n↔c<=m/\m<c+n:=by
 simp only[zp,zY6,z91]
 constructor
 ·rintro⟨i,hi,rfl⟩;lia
 ·rintro⟨a,b⟩;exact⟨(m-c).toNat,by lia,(zH2 a)⟩
theorem uL (c:Int):∀n:Nat,(zp c n).Nodup
 |0=>by simp[zp]
 |n+1=>by
  rw[oA,List.nodup_append];refine⟨uL c n,by simp,?_⟩;intro a ha b hb;rw[zK]at ha;simp at hb;exact Int.ne_of_lt (z95 ha.2 (Int.le_of_eq hb.symm))
def vo (zs:List Int)(many free i:Nat)(bs:List Bool):Prop:=
 bs.length=zs.length/\(∀j,i / many*many<=j->bs.getD j false=false)/\∀k,k<i / many->∃ms:List Int,uz (zp ((k*many:Nat):Int) many) zs ms/\∀q,q<many->bs.getD (ms.getD q 0).toNat false=decide (q<free)
theorem qv (zs:List Int){many:Nat}(free:Nat):vo zs many free 0 (List.replicate zs.length false):=by
 refine⟨by simp,λj _=>?_,λk hk=>?_⟩
 ·rw[zN3,zV9];split<;>rfl
 ·rw[Nat.zero_div]at hk;exact(zT2 _ (zP5 (zO5 _) hk)).elim
theorem rP {i many:Nat}(h:0<many)(a:i % many+1<many):(i+1) / many=i / many/\(i+1) % many=i % many+1:=by
 have e:=z59 i many;have b:i+1=(i % many+1)+many*(i / many):=by lia
 constructor
 ·rw[b,Nat.add_mul_div_left _ _ h,Nat.div_eq_of_lt a,Nat.zero_add]
 ·rw[b,Nat.add_mul_mod_self_left,Nat.mod_eq_of_lt a]
theorem sk {i many:Nat}(h:0<many)(b:i % many+1=many):(i+1) / many=i / many+1/\(i+1) % many=0/\(i / many+1)*many=i+1:=by
 have e:=z59 i many;have a:many*(i / many+1)=i+1:=by rw[Nat.mul_add,Nat.mul_one];lia
 refine⟨?_,?_,?_⟩
 ·rw[<-a,Nat.mul_div_cancel_left _ h]
 ·rw[<-a,Nat.mul_mod_right]
 ·rw[Nat.mul_comm];exact a
theorem qJ {zs:List Int}{many free i:Nat}{bs:List Bool}(h:0<many)(a:i % many+1<many)(m:vo zs many free i bs):vo zs many free (i+1) bs:=by
 unfold vo at *;rw[(rP h a).1];exact m
theorem xU {lo:Int}{n:Nat}{zs ms:List Int}(s:uz (zp lo n) zs ms){q:Nat}(h:q<n):lo<=ms.getD q 0/\ms.getD q 0<lo+n:=by
 have a:ms.length=n:=by rw[s.1.length_eq,zb]
 have:ms.getD q 0∈ms:=by
  rw[zN3,zN2 (zN4 h (zO9 a.symm))];exact zS7 _
 exact zK.mp (s.1.mem_iff.mp this)
theorem qI {zs ms:List Int}{many free i:Nat}{bs a:List Bool}(h:0<many)(o:i % many+1=many)(m:vo zs many free i bs)(s:uz (zp ((i / many*many:Nat):Int) many) zs ms)
  (n:a.length=bs.length) (e1:∀q,q<many->a.getD (ms.getD q 0).toNat false=decide (q<free)) (g:∀j,(∀q,q<many->(ms.getD q 0).toNat≠j)->a.getD j false=bs.getD j false):vo zs many free (i+1) a:=by
 obtain⟨f,u,l⟩:=sk h o;obtain⟨m1,m2,m3⟩:=m;refine⟨by rw[n,m1],λj p=>?_,λk hk=>?_⟩
 ·rw[f,l]at p;have e:=z59 i many;have r:i / many*many=many*(i / many):=Nat.mul_comm _ _;rw[g j λq hq=>?_,m2 j (by lia)];have:=xU s hq
  lia
 ·rw[f]at hk;by_cases b:k=i / many
  ·subst b;exact⟨ms,s,e1⟩
  ·obtain⟨d,s2,f2⟩:=m3 k (eJ hk b);refine⟨d,s2,λq hq=>?_⟩;rw[g _ λt c=>?_,f2 q hq];have a1:=xU s c;have a2:=xU s2 hq;have:(k+1)*many<=i / many*many:=z50 _ (by lia);rw[z70,Nat.one_mul]at this
   lia
theorem ng (f:Nat):∀n,((List.range n).map λq=>decide (q<f)).count true=min f n
 |0=>by simp
 |n+1=>by
  rw[List.range_succ,zY7,List.count_append,ng f n];by_cases h:n<f
  ·simp[h];lia
  ·simp[h];lia
theorem tO {α:Type}(l:List α)(d:α)(a n:Nat)(h:a+n<=l.length):(l.drop a).take n=(zp (a:Int) n).map λm=>l.getD m.toNat d:=by
 apply z74
 ·simp[zb];exact zg7 h
 ·intro i c b;have hi:i<n:=by simpa[zb]using b
  simp only[zp,List.getElem_take,z42,List.getElem_map,List.getElem_range];rw[show((a:Int)+(i:Nat)).toNat=a+i by lia,zN3,zN2 (zL4 h hi)];rfl
theorem ur {zs ms:List Int}{lo many free:Nat}{bs:List Bool}(s:uz (zp (lo:Int) many) zs ms)(hb:lo+many<=bs.length)(h:∀q,q<many->bs.getD (ms.getD q 0).toNat false=decide (q<free))(hf:free<=many):((bs.drop lo).take many).count true=free:=by
 have a:ms.length=many:=by rw[s.1.length_eq,zb]
 rw[tO bs false lo many hb,<-(s.1.map λm=>bs.getD m.toNat false).count_eq];have:ms.map (λm=>bs.getD m.toNat false)=(List.range many).map λq=>decide (q<free):=by
  apply z74
  ·simp[a]
  ·intro i c b;have hi:i<many:=by simpa using b
   simp only[List.getElem_map,List.getElem_range];have:=h i hi;rw[zN3 (l:=ms),zN2 (zN4 hi (zO9 a.symm))]at this;exact this
 rw[this,ng]
 lia
theorem zr3 {lo:Int}{n:Nat}{zs ms:List Int}(s:uz (zp lo n) zs ms){m:Int}(b:lo<=m)(c:m<lo+n):∃q,q<n/\ms.getD q 0=m:=by
 have a:ms.length=n:=by rw[s.1.length_eq,zb]
 obtain⟨q,hq,e⟩:=zT8.mp (s.1.mem_iff.mpr (zK.mpr ⟨b,c⟩));exact⟨q,(zN4 hq (zO9 a)),by rw[zN3,zN2 hq];exact e⟩
open PySem (IsZip)
section
variable {prog:Program}{w:World}{A:Around}{E:Value->Shared->Prop}{s:Shared}
theorem nR {M:Model}{a:Addr}{Q:Option Obj->Shared->Prop}(h:Q (s.heap.get? a) s):wpAny M A (loadIfAlive a) Q E s:=λb p c=>by
 show Sem.wp M b (.loadIfAlive a .pure) _ _ p s;rw[Sem.wp_loadIfAlive];exact h
abbrev zO (f0 f1:Value)(TI TO:Addr):Obj:={cls:=.type "zip",dict:=none,data:=.fields #[f0,f1,.bool false,.ref TI,.ref TO],slots:=#[]}
abbrev tO3 (a b c:Value):Obj:={cls:=.type "tuple",data:=.seq #[a,b,c]}
theorem xy {T:Addr}{a b c x:Value}{k:Nat}{Q:Unit->Shared->Prop}(d:s.heap.get? T=some (tO3 a b c))
  (h:∀h',h'.get? T=some {cls:=.type "tuple",data:=.seq ((#[a,b,c]:Array Value).setIfInBounds k x)}->Heap.SameBut T s.heap h'->Q () {s with heap:=h'}):
  wpAny (model prog w) A (updateSeq T (·.setIfInBounds k x)) Q E s:=by
 refine z22 d rfl (h _ ?_ (z00 ..));rw[z21 _ d rfl];simp[Obj.mapSeq]
structure wq (h:Heap)(n:Nat)(l1 l2 l3:Addr)(k:Nat)(f0 f1 a b c:Value):Prop where
 z:h.get? (n+5:Nat)=some (zO f0 f1 (n+3:Nat) (n+4:Nat))
 ti:h.get? (n+3:Nat)=some (tO3 (.ref (n:Nat)) (.ref (n+1:Nat)) (.ref (n+2:Nat)))
 to:h.get? (n+4:Nat)=some (tO3 a b c)
 i1:h.IsListIter (n:Nat) l1 k
 i2:h.IsListIter (n+1:Nat) l2 k
 i3:h.IsListIter (n+2:Nat) l3 k
abbrev z3 (n:Nat):List Addr:=[(n:Nat),(n+1:Nat),(n+2:Nat),(n+3:Nat),(n+4:Nat),(n+5:Nat)]
theorem zq (a b:Nat)(h:a<b\/b<a):@Ne Addr a b:=λe=>by
 have e:@Eq Nat a b:=e
 lia
theorem kG {n l1 l2 l3:Nat}{k:Nat}{f1 a b c x y z:Value}{xs ys zs:Array Value}{Q:Value->Shared->Prop}(h1:l1<n)(h2:l2<n)(V:l3<n)(Z:wq s.heap n l1 l2 l3 k .none f1 a b c)
  (b1:s.heap.IsList l1 xs) (a9:s.heap.IsList l2 ys) (a8:s.heap.IsList l3 zs) (hx:xs[k]?=some x) (hy:ys[k]?=some y) (hz:zs[k]?=some z)
  (hQ:∀h',wq h' n l1 l2 l3 (k+1) (rawInt s.heap.objs.size) (.bool false) x y z->h'.get? s.heap.objs.size=some (tO3 x y z)->
   (∀c o,c∉z3 n->s.heap.get? c=some o->h'.get? c=some o)->Q (.ref s.heap.objs.size) {s with heap:=h'}):
  wpAny (model prog w) A (Builtin.«zip.__next__» ⟨[.ref (n+5:Nat)],[]⟩) (λfin s'=>∃v,fin=.done (.ret v)/\Q v s') E s:=by
 obtain⟨H,a7,b0,g1,g2,g3⟩:=Z;show wpAny _ _ (field (.ref _) 2 >>= _) _ _ _;refine zM8 (zW8 H rfl (x:=.bool false) rfl ?_);show wpAny _ _ (field (.ref _) 3 >>= _) _ _ _;refine zM8 (zW8 H rfl (x:=.ref (n+3:Nat)) rfl ?_);refine zM8 (zX0 a7 rfl ?_);show wpAny _ _ (Builtin.SmallTypes.ownedTupleIsFree (.ref (n+5:Nat)) >>= _) _ _ _;refine zM8 ?_;unfold Builtin.SmallTypes.ownedTupleIsFree;refine zM8 (zW8 H rfl (x:=.none) rfl (zN1 ?_));simp only[z45];refine zM8 (zW9 ?_);refine zM8 (zW8 H rfl (x:=.ref (n+4:Nat)) rfl ?_);refine zM8 (zV0 H (by simp) λa0 u f=>?_)
 replace u:a0.get? (n+5:Nat)=some (zO .ellipsis f1 (n+3:Nat) (n+4:Nat)):=u
 refine zM8 ?_;simp only[List.zipIdx_cons,List.zipIdx_nil,z83,List.forIn_nil];refine zM8 (zM8 (wpAny_onRaise ?_));show wpAny _ _ (Builtin.SmallTypes.nextOf (.ref (n:Nat)) >>= _) _ _ _;refine zM8 (zX9 (g1.extBut f.extBut (by refine zq _ _ ?_;exact bN)) (b1.extBut f.extBut (by refine zq _ _ ?_;exact .inl (zN4 h1 (zP2 _ _)))) hx λa5 L g=>zN1 ?_);have B:a5.get? (n+4:Nat)=some (tO3 a b c):=g.extBut _ _ (by refine zq _ _ ?_;exact zk0) (f.extBut _ _ (by refine zq _ _ ?_;exact eS) b0);refine zM8 (zX0 B rfl ?_);refine zM8 (xy B λY r h=>?_)
 replace r:Y.get? (n+4:Nat)=some (tO3 x b c):=r
 refine zM8 (wpAny_letGo (zN1 ?_));refine zM8 (zM8 (wpAny_onRaise ?_));show wpAny _ _ (Builtin.SmallTypes.nextOf (.ref (n+1:Nat)) >>= _) _ _ _;refine zM8 (zX9 (((g2.extBut f.extBut (by refine zq _ _ ?_;exact dm)).extBut g.extBut (by refine zq _ _ ?_;exact .inr (zT3 _))).extBut h.extBut (by refine zq _ _ ?_;exact bC))
  (((a9.extBut f.extBut (by refine zq _ _ ?_;exact .inl (zN4 h2 (zP2 _ _)))).extBut g.extBut (by refine zq _ _ ?_;exact .inl h2)).extBut h.extBut (by refine zq _ _ ?_;exact .inl (zN4 h2 (zP2 _ _)))) hy λU T j=>zN1 ?_)
 have D:U.get? (n+4:Nat)=some (tO3 x b c):=j.extBut _ _ (by refine zq _ _ ?_;exact zh9) r;refine zM8 (zX0 D rfl ?_);refine zM8 (xy D λW q i=>?_)
 replace q:W.get? (n+4:Nat)=some (tO3 x y c):=q
 refine zM8 (wpAny_letGo (zN1 ?_));refine zM8 (zM8 (wpAny_onRaise ?_));show wpAny _ _ (Builtin.SmallTypes.nextOf (.ref (n+2:Nat)) >>= _) _ _ _;refine zM8 (zX9 (((((g3.extBut f.extBut (by refine zq _ _ ?_;exact ae)).extBut g.extBut (by refine zq _ _ ?_;exact zn0)).extBut h.extBut (by refine zq _ _ ?_;exact fJ)).extBut j.extBut (by refine zq _ _ ?_;exact zl0)).extBut i.extBut (by refine zq _ _ ?_;exact fJ))
  (((((a8.extBut f.extBut (by refine zq _ _ ?_;exact .inl (zN4 V (zP2 _ _)))).extBut g.extBut (by refine zq _ _ ?_;exact .inl V)).extBut h.extBut (by refine zq _ _ ?_;exact .inl (zN4 V (zP2 _ _)))).extBut j.extBut (by refine zq _ _ ?_;exact .inl (zN4 V (zP2 _ _)))).extBut i.extBut (by refine zq _ _ ?_;exact .inl (zN4 V (zP2 _ _)))) hz λa1 S l=>zN1 ?_)
 have C:a1.get? (n+4:Nat)=some (tO3 x y c):=l.extBut _ _ (by refine zq _ _ ?_;exact zh7) q;refine zM8 (zX0 C rfl ?_);refine zM8 (xy C λd p m=>?_)
 replace p:d.get? (n+4:Nat)=some (tO3 x y z):=p
 refine zM8 (wpAny_letGo (zN1 (zN1 ?_)));refine zM8 (zX0 p rfl ?_);refine zM8 (z64 ?_);have a4:d.objs.size=s.heap.objs.size:=by rw[m.1,l.1,i.1,j.1,h.1,g.1,f.1]
 have a6:∀c o,c≠(n+5:Nat)->c≠(n:Nat)->c≠(n+4:Nat)->c≠(n+1:Nat)->c≠(n+2:Nat)->s.heap.get? c=some o->d.get? c=some o:=λc o c1 c2 c3 c4 c5 e=>
  m.extBut _ _ c3 (l.extBut _ _ c5 (i.extBut _ _ c3 (j.extBut _ _ c4 (h.extBut _ _ c3 (g.extBut _ _ c2 (f.extBut _ _ c1 e))))))
 have G:d.get? (n+5:Nat)=some (zO .ellipsis f1 (n+3:Nat) (n+4:Nat)):=m.extBut _ _ (by refine zq _ _ ?_;exact eW) (l.extBut _ _ (by refine zq _ _ ?_;exact zi7) (i.extBut _ _ (by refine zq _ _ ?_;exact eW) (j.extBut _ _ (by refine zq _ _ ?_;exact zl6) (h.extBut _ _ (by refine zq _ _ ?_;exact eW) (g.extBut _ _ (by refine zq _ _ ?_;exact zk8) u)))));have M:d.IsListIter (n:Nat) l1 (k+1):=((((L.extBut h.extBut (by refine zq _ _ ?_;exact eZ)).extBut j.extBut (by refine zq _ _ ?_;exact .inl (zT3 _))).extBut i.extBut (by refine zq _ _ ?_;exact eZ)).extBut l.extBut (by refine zq _ _ ?_;exact zj4)).extBut m.extBut (by refine zq _ _ ?_;exact eZ);have R:d.IsListIter (n+1:Nat) l2 (k+1):=((T.extBut i.extBut (by refine zq _ _ ?_;exact bC)).extBut l.extBut (by refine zq _ _ ?_;exact zk3)).extBut m.extBut (by refine zq _ _ ?_;exact bC);have P:d.IsListIter (n+2:Nat) l3 (k+1):=S.extBut m.extBut (by refine zq _ _ ?_;exact fJ);have I:=a6 _ _ (by refine zq _ _ ?_;exact eU) (by refine zq _ _ ?_;exact zi8) (by refine zq _ _ ?_;lia) (by refine zq _ _ ?_;exact zm3) (by refine zq _ _ ?_;exact zm9) a7;have K:(n+5:Nat)<d.objs.size:=zO4 G;show wpAny _ _ (Builtin.SmallTypes.ownedTupleHandOut (.ref (n+5:Nat)) (.ref d.objs.size) >>= _) _ _ _;refine zM8 ?_;unfold Builtin.SmallTypes.ownedTupleHandOut;have O:(d.push {cls:=.type "tuple",data:=.seq #[x,y,z]}).get? (n+5:Nat)=some (zO .ellipsis f1 (n+3:Nat) (n+4:Nat)):=zM9 _ G;refine zM8 (zV0 O (by simp) λX t F=>?_)
 replace t:X.get? (n+5:Nat)=some (zO (rawInt d.objs.size) f1 (n+3:Nat) (n+4:Nat)):=t
 refine zV0 t (by simp) λhA J a2=>?_
 replace J:hA.get? (n+5:Nat)=some (zO (rawInt d.objs.size) (.bool false) (n+3:Nat) (n+4:Nat)):=J
 have up:∀c o,c≠(n+5:Nat)->d.get? c=some o->hA.get? c=some o:=λc o c1 e=>a2.extBut _ _ c1 (F.extBut _ _ c1 (zM9 _ e));have a3:hA.get? d.objs.size=some (tO3 x y z):=a2.extBut _ _ (zY4 K) (F.extBut _ _ (zY4 K) (zO2 _ rfl));rw[a4]at J a3;refine zN1 ⟨_,rfl,?_⟩;show Q (.ref d.objs.size) _;rw[a4];refine hQ hA ⟨J,up _ _ (by refine zq _ _ ?_;exact eU) I,up _ _ (by refine zq _ _ ?_;exact eS) p,M.at λo e=>up _ o (by refine zq _ _ ?_;exact bN) e,R.at λo e=>up _ o (by refine zq _ _ ?_;exact dm) e,P.at λo e=>up _ o (by refine zq _ _ ?_;exact ae) e⟩ a3 λc o N e=>?_;simp only[z3,zN6,zP0,zR9,not_or]at N;exact up c o N.2.2.2.2.2 (a6 c o N.2.2.2.2.2 N.1 N.2.2.2.2.1 N.2.1 N.2.2.1 e)
theorem qt {n l1 l2 l3 k T:Nat}{f1 a b c:Value}{ot:Obj}{Q:Bool->Shared->Prop}(t:l1<n)(u:l2<n)(r:l3<n)(Z:wq s.heap n l1 l2 l3 k (rawInt (T:Nat)) f1 a b c)(p:s.heap.get? T=some ot)
  (m:∀h' l,wq h' n l1 l2 l3 k (rawInt (T:Nat)) l a b c->h'.objs.size=s.heap.objs.size->(∀c o,c≠(n+5:Nat)->s.heap.get? c=some o->h'.get? c=some o)->Q false {s with heap:=h'}):
  wpAny (model prog w) A (Builtin.SmallTypes.ownedTupleIsFree (.ref (n+5:Nat))) Q E s:=by
 obtain⟨g,i,j,g1,g2,g3⟩:=Z;unfold Builtin.SmallTypes.ownedTupleIsFree;refine zM8 (zW8 g rfl (x:=rawInt (T:Nat)) rfl ?_);show wpAny _ _ (loadIfAlive ((T:Int).toNat) >>= _) _ _ _;refine zM8 (nR ?_);rw[show((T:Int).toNat)=T from zS2 T,p];show wpAny _ _ (field (.ref (n+5:Nat)) 1 >>= _) _ _ _;refine zM8 (zW8 g rfl (x:=f1) rfl ?_);refine zR7 (λ_=>?_) (λ_=>?_)
 ·refine zM8 (zV0 g (by simp) λh f d=>zN1 ?_)
  replace f:h.get? (n+5:Nat)=some (zO (rawInt (T:Nat)) (.bool true) (n+3:Nat) (n+4:Nat)):=f
  exact m h _ ⟨f,d.extBut _ _ (by refine zq _ _ ?_;exact eU) i,d.extBut _ _ (by refine zq _ _ ?_;exact eS) j,g1.extBut d.extBut (by refine zq _ _ ?_;exact bN),g2.extBut d.extBut (by refine zq _ _ ?_;exact dm),g3.extBut d.extBut (by refine zq _ _ ?_;exact ae)⟩ d.1 λc o q e=>d.extBut _ _ q e
 ·exact zN1 (m s.heap f1 ⟨g,i,j,g1,g2,g3⟩ rfl λ_ _ _ e=>e)
theorem fc {n l1 l2 l3 k T:Nat}{f1 a b c x y z:Value}{ot:Obj}{xs ys zs:Array Value}{Q:Value->Shared->Prop}(O:l1<n)(L:l2<n)(G:l3<n)(Z:wq s.heap n l1 l2 l3 k (rawInt (T:Nat)) f1 a b c)(V:s.heap.get? T=some ot)
  (p:s.heap.IsList l1 xs) (t:s.heap.IsList l2 ys) (j:s.heap.IsList l3 zs) (X:xs[k]?=some x) (hy:ys[k]?=some y) (hz:zs[k]?=some z)
  (U:∀h' r,wq h' n l1 l2 l3 (k+1) (rawInt (T:Nat)) r a b c->h'.get? s.heap.objs.size=some (tO3 x y z)->
   (∀c o,c∉z3 n->s.heap.get? c=some o->h'.get? c=some o)->Q (.ref s.heap.objs.size) {s with heap:=h'}):
  wpAny (model prog w) A (Builtin.«zip.__next__» ⟨[.ref (n+5:Nat)],[]⟩) (λfin s'=>∃v,fin=.done (.ret v)/\Q v s') E s:=by
 show wpAny _ _ (field (.ref _) 2 >>= _) _ _ _;refine zM8 (zW8 Z.z rfl (x:=.bool false) rfl ?_);show wpAny _ _ (field (.ref _) 3 >>= _) _ _ _;refine zM8 (zW8 Z.z rfl (x:=.ref (n+3:Nat)) rfl ?_);refine zM8 (zX0 Z.ti rfl ?_);show wpAny _ _ (Builtin.SmallTypes.ownedTupleIsFree (.ref (n+5:Nat)) >>= _) _ _ _;refine zM8 (qt O L G Z V λH r ZB K F=>?_);obtain⟨I,M,J,g1,g2,g3⟩:=ZB
 replace p:H.IsList l1 xs:=p.at λo e=>F _ o (by refine zq _ _ ?_;exact .inl (zN4 O (zP2 _ _))) e
 replace t:H.IsList l2 ys:=t.at λo e=>F _ o (by refine zq _ _ ?_;exact .inl (zN4 L (zP2 _ _))) e
 replace j:H.IsList l3 zs:=j.at λo e=>F _ o (by refine zq _ _ ?_;exact .inl (zN4 G (zP2 _ _))) e
 simp only[zY2,z49];rw[z96];simp only[z83,List.forIn_nil];refine zM8 (zM8 (zM8 (zT0 ?_)));show wpAny _ _ (Builtin.SmallTypes.nextOf (.ref (n:Nat)) >>= _) _ _ _;refine zM8 (zX9 g1 p X λP l d=>zN1 (zN1 ?_));refine zM8 (zM8 (zT0 ?_));show wpAny _ _ (Builtin.SmallTypes.nextOf (.ref (n+1:Nat)) >>= _) _ _ _;refine zM8 (zX9 (g2.extBut d.extBut (by refine zq _ _ ?_;exact .inr (zT3 _))) (t.extBut d.extBut (by refine zq _ _ ?_;exact .inl L)) hy λN B g=>zN1 (zN1 ?_));refine zM8 (zM8 (zT0 ?_));show wpAny _ _ (Builtin.SmallTypes.nextOf (.ref (n+2:Nat)) >>= _) _ _ _;refine zM8 (zX9 ((g3.extBut d.extBut (by refine zq _ _ ?_;exact zn0)).extBut g.extBut (by refine zq _ _ ?_;exact zl0)) ((j.extBut d.extBut (by refine zq _ _ ?_;exact .inl G)).extBut g.extBut (by refine zq _ _ ?_;exact .inl (zN4 G (zP2 _ _)))) hz λf q h=>zN1 (zN1 (zN1 ?_)));refine zM8 (z64 ?_ (by show 3<=sizeLine;decide));have D:f.objs.size=s.heap.objs.size:=by rw[h.1,g.1,d.1];exact K
 have i:∀c o,c≠(n:Nat)->c≠(n+1:Nat)->c≠(n+2:Nat)->H.get? c=some o->f.get? c=some o:=λc o S W R e=>h.extBut _ _ R (g.extBut _ _ W (d.extBut _ _ S e));have up:∀c o,f.get? c=some o->(f.push {cls:=.type "tuple",data:=.seq #[x,y,z]}).get? c=some o:=λc o e=>zM9 _ e;have u:f.IsListIter (n:Nat) l1 (k+1):=(l.extBut g.extBut (by refine zq _ _ ?_;exact .inl (zT3 _))).extBut h.extBut (by refine zq _ _ ?_;exact zj4);have m:f.IsListIter (n+1:Nat) l2 (k+1):=B.extBut h.extBut (by refine zq _ _ ?_;exact zk3);refine zN1 ⟨_,rfl,?_⟩;show Q (.ref f.objs.size) _;rw[D];refine U _ r ⟨up _ _ (i _ _ (by refine zq _ _ ?_;exact zk8) (by refine zq _ _ ?_;exact zl6) (by refine zq _ _ ?_;exact zi7) I),up _ _ (i _ _ (by refine zq _ _ ?_;exact zi8) (by refine zq _ _ ?_;exact zm3) (by refine zq _ _ ?_;exact zm9) M),up _ _ (i _ _ (by refine zq _ _ ?_;exact zk0) (by refine zq _ _ ?_;exact zh9) (by refine zq _ _ ?_;exact zh7) J),u.at λo e=>up _ o e,m.at λo e=>up _ o e,q.at λo e=>up _ o e⟩ ?_ λc o C e=>?_
 ·rw[<-D];exact zO2 _ rfl
 ·simp only[z3,zN6,zP0,zR9,not_or]at C;exact up c o (i c o C.1 C.2.1 C.2.2.1 (F c o C.2.2.2.2.2 e))
theorem bz {n l1 l2 l3 k T:Nat}{f1 a b c:Value}{ot:Obj}{xs:Array Value}{Q:PySem.Fin->Shared->Prop}(B:A.handled=none)(j:l1<n)(u:l2<n)(l:l3<n)(Z:wq s.heap n l1 l2 l3 k (rawInt (T:Nat)) f1 a b c)(m:s.heap.get? T=some ot)
  (f:s.heap.IsList l1 xs) (p:xs[k]?=none)
  (y:∀h' e,(∀c o,c∉z3 n->s.heap.get? c=some o->h'.get? c=some o)->(∃o,h'.get? e=some o/\o.cls=.type "StopIteration")->E (.ref e) {s with heap:=h'}):
  wpAny (model prog w) A (Builtin.«zip.__next__» ⟨[.ref (n+5:Nat)],[]⟩) Q E s:=by
 show wpAny _ _ (field (.ref _) 2 >>= _) _ _ _;refine zM8 (zW8 Z.z rfl (x:=.bool false) rfl ?_);show wpAny _ _ (field (.ref _) 3 >>= _) _ _ _;refine zM8 (zW8 Z.z rfl (x:=.ref (n+3:Nat)) rfl ?_);refine zM8 (zX0 Z.ti rfl ?_);show wpAny _ _ (Builtin.SmallTypes.ownedTupleIsFree (.ref (n+5:Nat)) >>= _) _ _ _;refine zM8 (qt j u l Z m λt v ZB r i=>?_)
 replace f:t.IsList l1 xs:=f.at λo e=>i _ o (by refine zq _ _ ?_;exact .inl (zN4 j (zP2 _ _))) e
 simp only[zY2,z49];rw[z96];simp only[z83,List.forIn_nil];refine zM8 (zM8 (zM8 (zT0 ?_)));show wpAny _ _ (Builtin.SmallTypes.nextOf (.ref (n:Nat)) >>= _) _ _ _;refine zM8 (wpAny_nextOf_list_end B ZB.i1 f p λg e d he=>?_);refine y g e (λc o h q=>?_) he;simp only[z3,zN6,zP0,zR9,not_or]at h;exact d _ _ h.1 (i _ _ h.2.2.2.2.2 q)
theorem mq {n l1 l2 l3 k:Nat}{f1 a b c x y z:Value}{xs ys zs:Array Value}{Q:Option Value->Shared->Prop}(l:l1<n)(m:l2<n)(i:l3<n)(Z:wq s.heap n l1 l2 l3 k .none f1 a b c)
  (e:s.heap.IsList l1 xs) (f:s.heap.IsList l2 ys) (d:s.heap.IsList l3 zs) (p:xs[k]?=some x) (hy:ys[k]?=some y) (hz:zs[k]?=some z)
  (j:∀h',wq h' n l1 l2 l3 (k+1) (rawInt s.heap.objs.size) (.bool false) x y z->h'.get? s.heap.objs.size=some (tO3 x y z)->
   (∀c o,c∉z3 n->s.heap.get? c=some o->h'.get? c=some o)->Q (some (.ref s.heap.objs.size)) {s with heap:=h'}):
  wpAny (model prog w) A (pyNext (.ref (n+5:Nat))) Q E s:=by
 have g:s.TypeIs (.ref (n+5:Nat)) "zip":=⟨_,Z.z,rfl⟩;unfold pyNext;exact zM8 (zZ7 (zU8 (name:=Str.ofString "__next__") g zW6
  (zU2 zW6 g z71
   (kG l m i Z e f d p hy hz λh' a1 a2 h=>zN1 (j h' a1 a2 h)) (z66 _))))
theorem kf {n l1 l2 l3 k T:Nat}{f1 a b c x y z:Value}{ot:Obj}{xs ys zs:Array Value}{Q:Option Value->Shared->Prop}(m:l1<n)(r:l2<n)(j:l3<n)(Z:wq s.heap n l1 l2 l3 k (rawInt (T:Nat)) f1 a b c)(p:s.heap.get? T=some ot)
  (g:s.heap.IsList l1 xs) (h:s.heap.IsList l2 ys) (f:s.heap.IsList l3 zs) (q:xs[k]?=some x) (hy:ys[k]?=some y) (hz:zs[k]?=some z)
  (l:∀h' d,wq h' n l1 l2 l3 (k+1) (rawInt (T:Nat)) d a b c->h'.get? s.heap.objs.size=some (tO3 x y z)->
   (∀c o,c∉z3 n->s.heap.get? c=some o->h'.get? c=some o)->Q (some (.ref s.heap.objs.size)) {s with heap:=h'}):
  wpAny (model prog w) A (pyNext (.ref (n+5:Nat))) Q E s:=by
 have e:s.TypeIs (.ref (n+5:Nat)) "zip":=⟨_,Z.z,rfl⟩;unfold pyNext;exact zM8 (zZ7 (zU8 (name:=Str.ofString "__next__") e zW6
  (zU2 zW6 e z71
   (fc m r j Z p g h f q hy hz λh' d a1 a2 i=>zN1 (l h' d a1 a2 i)) (z66 _))))
theorem gu {n l1 l2 l3 k T:Nat}{f1 a b c:Value}{ot:Obj}{xs:Array Value}{Q:Option Value->Shared->Prop}(q:A.handled=none)(j:l1<n)(m:l2<n)(g:l3<n)(Z:wq s.heap n l1 l2 l3 k (rawInt (T:Nat)) f1 a b c)(l:s.heap.get? T=some ot)
  (f:s.heap.IsList l1 xs) (r:xs[k]?=none)
  (i:∀h',(∀c o,c∉z3 n->s.heap.get? c=some o->h'.get? c=some o)->Q none {s with heap:=h'}):
  wpAny (model prog w) A (pyNext (.ref (n+5:Nat))) Q E s:=by
 have d:s.TypeIs (.ref (n+5:Nat)) "zip":=⟨_,Z.z,rfl⟩;unfold pyNext;refine zM8 (zZ7 (zU8 (name:=Str.ofString "__next__") d zW6
  (zU2 zW6 d z71 (bz q j m g Z l f r λh' e hk he=>?_) (z66 _))))
 obtain⟨o,h,p⟩:=he;refine zM8 (z76 (T:="StopIteration") (b:=true) ⟨o,h,p⟩ isSubtype_stop ?_);exact zN1 (i _ hk)
end
section
variable {X:Cx}{pins:List (Addr×Obj)}{σ:St}{H:Hp}{s:Shared}
def Tri (H0 H:Hp)(xs ys zs vs:List V)(i:Nat):Prop:=vs.length=i/\∀j,j<i->∃t x y z,vs[j]?=some (.ref t)/\xs[j]?=some x/\ys[j]?=some y/\zs[j]?=some z/\H t=some (.tup [x,y,z])/\H0 t=none
structure ZAt (X:Cx)(pins:List (Addr×Obj))(σ:St)(H:Hp)(n l1 l2 l3:Nat)(S:Addr)(xs ys zs:List V)(i:Nat)(s':Shared):Prop where
 ex:∃(H':Hp) (acc:List Value) (vs:List V) (e:Nat) (f0 f1 a b c:Value),Inv X pins σ H' s'/\(∀a o,H a=some o->H' a=some o)/\s'.heap.get? S=some {cls:=.type "list",dict:=none,data:=.seq acc.toArray e,slots:=#[]}/\H' S=none/\(∀b∈z3 n,H' b=none)/\
  wq s'.heap n l1 l2 l3 i f0 f1 a b c/\(i=0/\f0=.none\/∃(T:Nat) (ot:Obj),f0=rawInt (T:Nat)/\s'.heap.get? T=some ot/\T∉S::z3 n)/\Vals vs acc/\Tri H H' xs ys zs vs i
structure zp9 (X:Cx)(pins:List (Addr×Obj))(σ:St)(H:Hp)(S:Addr)(xs ys zs:List V)(s':Shared):Prop where
 ex:∃(H':Hp) (acc:List Value) (vs:List V) (e:Nat),Inv X pins σ H' s'/\(∀a o,H a=some o->H' a=some o)/\s'.heap.get? S=some {cls:=.type "list",dict:=none,data:=.seq acc.toArray e,slots:=#[]}/\H' S=none/\Vals vs acc/\Tri H H' xs ys zs vs xs.length
theorem Tri.snoc {H0 H H':Hp}{xs ys zs vs:List V}{i:Nat}{t:Addr}{x y z:V}(h:Tri H0 H xs ys zs vs i)(k:∀a o,H a=some o->H' a=some o)(e:xs[i]?=some x)(hy:ys[i]?=some y)(hz:zs[i]?=some z)(d:H' t=some (.tup [x,y,z]))(hn:H0 t=none):Tri H0 H' xs ys zs (vs++[.ref t]) (i+1):=by
 refine⟨by rw[zQ5,h.1];rfl,λj m=>?_⟩;rcases zS6 j i with b|b
 ·obtain⟨t',p,q,r,e1,l,f,c,n,g⟩:=h.2 j b;exact⟨t',p,q,r,by rw[zT7 (by rw[h.1];exact b)];exact e1,l,f,c,k _ _ n,g⟩
 ·have:j=i:=(zW4 (zX5 m) b);subst this;exact⟨t,x,y,z,by rw[zW0 (by rw[h.1];exact zN5 _),h.1];simp,e,hy,hz,d,hn⟩
theorem hG {A:Around}{R:Result->Shared->Prop}{n l1 l2 l3:Nat}{S:Addr}{xs ys zs:List V}(hh:A.handled=none)(h1:l1<n)(h2:l2<n)(h3:l3<n)(fS:∀H',H' S=none->yX X pins H' S)(fz:∀b∈z3 n,∀H',H' b=none->yX X pins H' b)(l:S∉z3 n)
  (U:SqL X.K H l1 xs) (q2:SqL X.K H l2 ys) (q3:SqL X.K H l3 zs) (e2:ys.length=xs.length) (e3:zs.length=xs.length) (h0:0<xs.length) (hN:xs.length<=1000)
  (hR:∀s',zp9 X pins σ H S xs ys zs s'->R (.ok (.ret .none)) s'):
  ∀(k i:Nat) (s:Shared),xs.length-i=k->i<=xs.length->ZAt X pins σ H n l1 l2 l3 S xs ys zs i s->codeAny (model X.prog X.w) A (.builtin "list.extend.loop" ⟨[.ref S,.ref (n+5:Nat),.none],[]⟩) R s:=by
 have a1:A.in1.handled=none:=hh;intro k
 induction k with
 |zero=>
  intro i s hk hi B;have a0:i=xs.length:=(zI5 hk hi);subst a0;obtain⟨H',acc,vs,e,f0,f1,a,b,c,I,st,G,nS,W,Z,fr,Q,tr⟩:=B.ex;refine zY8 PySem.F.entry_extend_loop ?_;rw[zX1 zY3 _];show wpAny _ A.in1 (pyNext (.ref (n+5:Nat)) >>= _) _ _ s;rcases fr with⟨z,_⟩|⟨T,ot,rfl,D,g⟩
  ·exact(zT2 _ (zN4 h0 (zO9 z))).elim
  obtain⟨O,y,p1,a3⟩:=I.list (wc U λa o _ e=>st a o e);refine zM8 (gu a1 h1 h2 h3 Z D p1.isList (by rw[List.getElem?_toArray,zV6];rw[y.length];exact zN5 _) λh' h=>?_);refine zN1 (hR _ ⟨H',acc,vs,e,I.turnL (t':=s.toks) (ch:=z3 n) (λb o hb q=>h b o hb q) (λb hb=>fz b hb H' (W b hb)),st,h _ _ l G,nS,Q,tr⟩)
 |succ k ih=>
  intro i s hk hi B;have m:i<xs.length:=(zF9 hk);obtain⟨H',acc,vs,e,f0,f1,a,b,c,I,st,G,nS,W,Z,fr,Q,tr⟩:=B.ex;refine zY8 PySem.F.entry_extend_loop ?_;rw[zX1 zY3 _];show wpAny _ A.in1 (pyNext (.ref (n+5:Nat)) >>= _) _ _ s;obtain⟨O,y,p1,a3⟩:=I.list (wc U λa o _ e=>st a o e);obtain⟨a8,a4,p2,b0⟩:=I.list (wc q2 λa o _ e=>st a o e);obtain⟨a9,a6,p3,b1⟩:=I.list (wc q3 λa o _ e=>st a o e);have gx:xs[i]?=some xs[i]:=zN2 m;have gy:ys[i]?=some ys[i]:=zN2 (zN4 m (zO9 e2.symm));have gz:zs[i]?=some zs[i]:=zN2 (zN4 m (zO9 e3.symm));obtain⟨u,hu,ru⟩:=y.get gx;obtain⟨v,hv,a7⟩:=a4.get gy;obtain⟨w,hw,a5⟩:=a6.get gz;have t:acc.length=i:=by rw[<-Q.length,tr.1]
  have N:∀b∈z3 n,b<s.heap.objs.size:=λb hb=>by
   have:∃o,s.heap.get? b=some o:=by
    simp only[z3,zN6,zP0,zR9]at hb;obtain⟨o1,U,_⟩:=Z.i1;obtain⟨o2,q2,_⟩:=Z.i2;obtain⟨o3,q3,_⟩:=Z.i3;rcases hb with rfl|rfl|rfl|rfl|rfl|rfl
    ·exact⟨_,U⟩
    ·exact⟨_,q2⟩
    ·exact⟨_,q3⟩
    ·exact⟨_,Z.ti⟩
    ·exact⟨_,Z.to⟩
    ·exact⟨_,Z.z⟩
   obtain⟨o,q⟩:=this;exact zO4 q
  have main:∀(h':Heap) (r p a' b' c':Value),wq h' n l1 l2 l3 (i+1) r p a' b' c'->(∃(T:Nat) (ot:Obj),r=rawInt (T:Nat)/\h'.get? T=some ot/\T∉S::z3 n)->h'.get? s.heap.objs.size=some (tO3 u v w)->
    (∀c o,c∉z3 n->s.heap.get? c=some o->h'.get? c=some o)->wpAny (model X.prog X.w) A.in1 (updateSeq S (·.push (.ref s.heap.objs.size)) >>= λ_=>again (.builtin "list.extend.loop" ⟨[.ref S,.ref (n+5:Nat),.none],[]⟩))
     (λfin s'=>match fin with|.done f=>R (.ok f) s'|.again c'=>c'.quiet=true/\codeAny (model X.prog X.w) A c' R s') (λe s'=>R (.error e) s') {s with heap:=h'}:=by
   intro h' r p a' b' c' j ⟨T,ot,hf,D,g⟩ C h;have nT:H' s.heap.objs.size=none:=I.hok.fresh (zN5 _);have a2:H s.heap.objs.size=none:=by
    cases q:H s.heap.objs.size with
    |none=>rfl
    |some o=>rw[st _ _ q]at nT;cases nT
   have M:∀a o,H' a=some o->upd H' s.heap.objs.size (.tup [xs[i],ys[i],zs[i]]) a=some o:=λa o q=>by rw[zj (zo q nT)];exact q
   have J:=I.turnLay (t':=s.toks) (h':=h') (ch:=z3 n) (T:=s.heap.objs.size) (o:=.tup [xs[i],ys[i],zs[i]]) h (λb hb=>fz b hb H' (W b hb)) (zN5 _) ⟨by show 3<=sizeLine;decide,[u,v,w],.cons ru (.cons a7 (.cons a5 .nil)),_,C,rfl,0,rfl⟩;have P:=h _ _ l G;have L:S<s.heap.objs.size:=zO4 G;have E:upd H' s.heap.objs.size (.tup [xs[i],ys[i],zs[i]]) S=none:=by rw[zj (zP1 L)];exact nS
   obtain⟨e',Y⟩:∃e',(h'.update S (Obj.mapSeq (·.push (Value.ref s.heap.objs.size)))).get? S=some {cls:=.type "list",dict:=none,data:=.seq (acc++[Value.ref s.heap.objs.size]).toArray e',slots:=#[]}:=by
    have:=zY5 (c:="list") P λx=>x.push (Value.ref s.heap.objs.size);rw[List.push_toArray]at this;exact⟨_,this⟩
   refine zM8 ?_;refine z22 P rfl (zN1 ⟨z35 zY3 _,ih (i+1) _ (zD0 hk) m ⟨_,acc++[.ref s.heap.objs.size],vs++[.ref s.heap.objs.size],e',r,p,a',b',c',
    J.turnL (t':=s.toks) (ch:=[S]) (λb o hb q=>(zS4 _ _ (zS3 (by simpa using hb))).trans q) (λb hb=>by rw[zP8.mp hb];exact fS _ E),λa o q=>M _ _ (st a o q),Y,E,λb hb=>?_,?_,.inr ⟨T,ot,hf,?_,g⟩,Q.append (.cons (show RelV (.ref s.heap.objs.size) (.ref s.heap.objs.size)from rfl) .nil),tr.snoc M gx gy gz zm a2⟩⟩)
    (by rw[zO3,t,zT1];lia) (by show(acc.toArray.push _).size<=sizeLine+1;rw[Array.size_push,zO3,t,zT1];lia)
   ·rw[zj]
    ·exact W b hb
    ·exact zP1 (N b hb)
   ·have d:∀b o,b≠S->h'.get? b=some o->(h'.update S (Obj.mapSeq (·.push (Value.ref s.heap.objs.size)))).get? b=some o:=λb o hb q=>(zS4 _ _ (zS3 hb)).trans q;simp only[z3,zN6,zP0,zR9,not_or]at l;obtain⟨d1,d2,d3,d4,d5,d6⟩:=l;exact⟨d _ _ (zS3 d6) j.z,d _ _ (zS3 d4) j.ti,d _ _ (zS3 d5) j.to,j.i1.at λo q=>d _ o (zS3 d1) q,j.i2.at λo q=>d _ o (zS3 d2) q,j.i3.at λo q=>d _ o (zS3 d3) q⟩
   ·exact(zS4 _ _ (λz=>g (by rw[<-z];exact zO1))).trans D
  rcases fr with⟨_,rfl⟩|⟨T,ot,rfl,D,g⟩
  ·refine zM8 (mq h1 h2 h3 Z p1.isList p2.isList p3.isList (by simpa using hu) (by simpa using hv) (by simpa using hw) λh' j C h=>?_);refine main h' _ _ _ _ _ j ⟨s.heap.objs.size,_,rfl,C,?_⟩ C h;intro z;rcases zN6.mp z with z|z
   ·exact absurd (zO4 G) (by rw[<-z];exact zT2 _)
   ·exact absurd (N _ z) (zT2 _)
  ·refine zM8 (kf h1 h2 h3 Z D p1.isList p2.isList p3.isList (by simpa using hu) (by simpa using hv) (by simpa using hw) λh' p j C h=>?_);exact main h' _ _ _ _ _ j ⟨T,ot,rfl,h _ _ (λz=>g (zN7 _ z)) D,g⟩ C h
end
theorem sM (a b c:Value):checkTypeCall "zip" ⟨[a,b,c],[]⟩=pure ():=by kernel_rfl
theorem qf (a b c:Value):checkBuiltinCall "zip.__new__" ⟨[.type "zip",a,b,c],[]⟩=pure ():=by kernel_rfl
theorem vE (a b c d:Value):argsOk "object.__init__" ⟨[a,b,c,d],[]⟩:=by unfold argsOk;rw[signature?_of (id:="object.__init__") (n:=['_','_','t','i','n','i','_','_']) (o:=['t','c','e','j','b','o']) (by kernel_rfl) PySem.F.owner_object];kernel_rfl
theorem mP :typeLookup (.type "zip") "__len__"=pure none:=by rw[z85,z47];kernel_rfl
theorem oP :typeLookup (.type "zip") "__length_hint__"=pure none:=by rw[z85,z47];kernel_rfl
abbrev itO (l:Addr):Obj:={cls:=.type "list_iterator",data:=.fields #[.ref l,.int 0 0]}
abbrev zh3 (h:Heap)(l1 l2 l3:Addr):Heap:=((h.push (itO l1)).push (itO l2)).push (itO l3)
abbrev zh4 (h:Heap)(l1 l2 l3:Addr):Heap:=(zh3 h l1 l2 l3).push (tO3 (.ref h.objs.size) (.ref (h.push (itO l1)).objs.size) (.ref ((h.push (itO l1)).push (itO l2)).objs.size))
abbrev zh5 (h:Heap)(l1 l2 l3:Addr):Heap:=(zh4 h l1 l2 l3).push (tO3 .none .none .none)
abbrev zh6 (h:Heap)(l1 l2 l3:Addr):Heap:=(zh5 h l1 l2 l3).push (zO .none (.bool false) (zh3 h l1 l2 l3).objs.size (zh4 h l1 l2 l3).objs.size)
theorem sA (l1 l2 l3:Addr)(xs ys zs:Array Value):
  Meets (Builtin.«zip.__new__» ⟨[.type "zip",.ref l1,.ref l2,.ref l3],[]⟩) (λ_ R s=>s.heap.IsList l1 xs/\s.heap.IsList l2 ys/\s.heap.IsList l3 zs/\
   R (.ok (.ret (.ref (zh5 s.heap l1 l2 l3).objs.size))) {s with heap:=zh6 s.heap l1 l2 l3}):=
 .of_wp λprog w A R s h=>by
  obtain⟨i,g,d,tk,os⟩:=s;obtain⟨b,f,a,h⟩:=h;have k:=sub_zip;have e:Heap.IsList (Shared.heap ⟨i,g,d,tk,os⟩) l1 xs:=b;have c:Heap.IsList (Shared.heap ⟨i.push {cls:=.type "list_iterator",data:=.fields #[.ref l1,.int 0 0]},g,d,tk,os⟩) l2 ys:=Heap.IsList.push f _;have j:Heap.IsList (Shared.heap ⟨(i.push {cls:=.type "list_iterator",data:=.fields #[.ref l1,.int 0 0]}).push {cls:=.type "list_iterator",data:=.fields #[.ref l2,.int 0 0]},g,d,tk,os⟩) l3 zs:=Heap.IsList.push (Heap.IsList.push a _) _
  wp_walk using z41 e,z41 c,z41 j
  exact⟨_,rfl,h⟩
section
variable {prog:Program}{w:World}{A:Around}{E:Value->Shared->Prop}{s:Shared}
theorem ki {l1 l2 l3:Addr}{xs ys zs:Array Value}{Q:Value->Shared->Prop}(f:s.heap.IsList l1 xs)(j:s.heap.IsList l2 ys)(b:s.heap.IsList l3 zs)
  (h:∀h',wq h' s.heap.objs.size l1 l2 l3 0 .none (.bool false) .none .none .none->h'.objs.size=s.heap.objs.size+6->(∀c o,s.heap.get? c=some o->h'.get? c=some o)->Q (.ref (s.heap.objs.size+5)) {s with heap:=h'}):
  wpAny (model prog w) A (call (.type "zip") [.ref l1,.ref l2,.ref l3]) Q E s:=by
 refine callType_new PySem.F.called_zip (by decide) (sM _ _ _) (qf _ _ _) (λobj=>vE obj _ _ _) PySem.F.entry_zip_new
  (sA l1 l2 l3 xs ys zs) ⟨f,j,b,?_⟩
 have d:(s.heap.push (itO l1)).objs.size=s.heap.objs.size+1:=zV5 ..;have k:((s.heap.push (itO l1)).push (itO l2)).objs.size=s.heap.objs.size+2:=by rw[zV5,d]
 have a:(zh3 s.heap l1 l2 l3).objs.size=s.heap.objs.size+3:=by rw[zV5,k]
 have e:(zh4 s.heap l1 l2 l3).objs.size=s.heap.objs.size+4:=by rw[zV5,a]
 have i:(zh5 s.heap l1 l2 l3).objs.size=s.heap.objs.size+5:=by rw[zV5,e]
 have n:(zh6 s.heap l1 l2 l3).objs.size=s.heap.objs.size+6:=by rw[zV5,i]
 have g:(zh6 s.heap l1 l2 l3).get? (zh5 s.heap l1 l2 l3).objs.size=some _:=zO2 _ rfl;have l:(zh6 s.heap l1 l2 l3).get? (zh4 s.heap l1 l2 l3).objs.size=some _:=zM9 _ (zO2 _ rfl);have m:(zh6 s.heap l1 l2 l3).get? (zh3 s.heap l1 l2 l3).objs.size=some _:=zM9 _ (zM9 _ (zO2 _ rfl));have g3:(zh6 s.heap l1 l2 l3).get? ((s.heap.push (itO l1)).push (itO l2)).objs.size=some _:=zM9 _ (zM9 _ (zM9 _ (zO2 _ rfl)));have g2:(zh6 s.heap l1 l2 l3).get? (s.heap.push (itO l1)).objs.size=some _:=zM9 _ (zM9 _ (zM9 _ (zM9 _ (zO2 _ rfl))));have g1:(zh6 s.heap l1 l2 l3).get? s.heap.objs.size=some _:=zM9 _ (zM9 _ (zM9 _ (zM9 _ (zM9 _ (zO2 _ rfl)))));show _/\_;rw[i,e,a]at g;rw[e]at l;rw[a,k,d]at m;rw[k]at g3;rw[d]at g2;rw[i];exact⟨⟨_,g,rfl⟩,h _ ⟨g,m,l,⟨_,g1,rfl,rfl⟩,⟨_,g2,rfl,rfl⟩,⟨_,g3,rfl,rfl⟩⟩ n λc o x=>
  zM9 _ (zM9 _ (zM9 _ (zM9 _ (zM9 _ (zM9 _ x)))))⟩
end
section
variable {X:Cx}{pins:List (Addr×Obj)}{σ:St}{H:Hp}{s:Shared}
theorem gJ {A:Around}{R:Result->Shared->Prop}{n l1 l2 l3:Nat}{S:Addr}{xs ys zs:List V}(hh:A.handled=none)(P:l1<n)(h2:l2<n)(N:l3<n)(I:Inv X pins σ H s)(Z:wq s.heap n l1 l2 l3 0 .none (.bool false) .none .none .none)(B:s.heap.get? S=some {cls:=.type "list",data:=.seq #[]})
  (v:H S=none) (nz:∀b∈z3 n,H b=none) (u:∀H',H' S=none->yX X pins H' S) (Y:∀b∈z3 n,∀H',H' b=none->yX X pins H' b) (t:S∉z3 n)
  (U:SqL X.K H l1 xs) (q2:SqL X.K H l2 ys) (q3:SqL X.K H l3 zs) (T:ys.length=xs.length) (O:zs.length=xs.length) (h0:0<xs.length) (W:xs.length<=1000)
  (hR:∀s',zp9 X pins σ H S xs ys zs s'->R (.ok (.ret .none)) s'):
  wpAny (model X.prog X.w) A.in1 (Builtin.«list.__init__» ⟨[.ref S,.ref (n+5:Nat)],[]⟩)
   (λfin s'=>match fin with|.done f=>R (.ok f) s'|.again c'=>c'.quiet=true/\codeAny (model X.prog X.w) A c' R s') (λe s'=>R (.error e) s') s:=by
 have k:=t;simp only[z3,zN6,zP0,zR9,not_or]at k;obtain⟨L,E,J,G,M,y⟩:=k;show wpAny _ _ (do let old <-Builtin.List.listItems (.ref S);Builtin.List.listUpdate (.ref S) (λ_=>#[]);letGo old.toList.reverse;Builtin.List.listExtendWith (.ref S) (.ref (n+5:Nat)) .none) _ _ s;refine zM8 ?_;unfold Builtin.List.listItems;refine zM8 (zX0 B rfl (zN1 ?_));show wpAny _ _ (updateSeq S (λ_=>#[]) >>= λ_=>letGo (#[]:Array Value).toList.reverse >>= λ_=>Builtin.List.listExtendWith (.ref S) (.ref (n+5:Nat)) .none) _ _ s;refine zM8 (z22 B rfl ?_);obtain⟨p,g⟩:∃p,(s.heap.update S (Obj.mapSeq (λ_=>(#[]:Array Value)))).get? S=some {cls:=.type "list",dict:=none,data:=.seq #[] p,slots:=#[]}:=⟨_,zY5 (c:="list") B λ_=>#[]⟩;have d:∀b o,b≠S->s.heap.get? b=some o->(s.heap.update S (Obj.mapSeq (λ_=>(#[]:Array Value)))).get? b=some o:=
  λb o hb e=>(zS4 _ _ (zS3 hb)).trans e
 have r:wq (s.heap.update S (Obj.mapSeq (λ_=>(#[]:Array Value)))) n l1 l2 l3 0 .none (.bool false) .none .none .none:=⟨d _ _ (zS3 y) Z.z,d _ _ (zS3 G) Z.ti,d _ _ (zS3 M) Z.to,Z.i1.at λo q=>d _ o (zS3 L) q,Z.i2.at λo q=>d _ o (zS3 E) q,Z.i3.at λo q=>d _ o (zS3 J) q⟩;refine zM8 (wpAny_letGo ?_);have D:Inv X pins σ H {s with heap:=s.heap.update S (Obj.mapSeq (λ_=>(#[]:Array Value))),toks:=s.toks}:=I.turnL (ch:=[S]) (λb o hb q=>d b o (by simpa using hb) q) λb hb=>by rw[zP8.mp hb];exact u H v
 have m:({s with heap:=s.heap.update S (Obj.mapSeq (λ_=>(#[]:Array Value)))}:Shared).TypeIs (.ref (n+5:Nat)) "zip":=⟨_,r.z,rfl⟩;unfold Builtin.List.listExtendWith;refine zM8 (wpAny_typeOf m ?_);have b1:Builtin.List.listSameRef (.ref S) (.ref (n+5:Nat))=false:=by simp[Builtin.List.listSameRef];exact y
 have b2:(Value.type "zip" == Value.type "list")=false:=by decide
 have b3:(Value.type "zip" == Value.type "tuple")=false:=by decide
 simp only[b1,b2,b3,Bool.or_false,zY2,z49];refine zM8 (wpAny_pyIter_slot m PySem.F.slot_zip_iter (zU2 PySem.F.slot_zip_iter m PySem.F.entry_zip_iter ?_ (PySem.F.args_zip_iter_1 _)));show wpAny _ _ (ret (.ref (n+5:Nat))) _ _ _;refine zN1 ⟨_,rfl,"zip",_,m,zW6.lookup,?_⟩;refine zM8 (zT0 ?_);unfold Builtin.List.listLengthHint;refine zM8 (z84 m mP ?_);show wpAny _ _ (specialOf (Value.ref (n+5:Nat)) (Str.ofString "__length_hint__") >>= _) _ _ _;refine zM8 (z84 m oP ?_);refine zN1 ?_;have key:∀(h:Heap) (e:Nat),h.get? S=some {cls:=.type "list",dict:=none,data:=.seq #[] e,slots:=#[]}->(∀b o,b≠S->s.heap.get? b=some o->h.get? b=some o)->codeAny (model X.prog X.w) A (.builtin "list.extend.loop" ⟨[.ref S,.ref (n+5:Nat),.none],[]⟩) R {s with heap:=h}:=by
  intro h e C a;refine hG hh P h2 N u Y t U q2 q3 T O h0 W hR xs.length 0 _ (by lia) (zO5 _) ⟨H,[],[],e,.none,.bool false,.none,.none,.none,I.turnL (t':=s.toks) (ch:=[S]) (λb o hb q=>a b o (by simpa using hb) q) (λb hb=>by rw[zP8.mp hb];exact u H v),λ_ _ e=>e,C,v,nz,?_,.inl ⟨rfl,rfl⟩,.nil,rfl,λj hj=>absurd hj (z86 _)⟩;exact⟨a _ _ (zS3 y) Z.z,a _ _ (zS3 G) Z.ti,a _ _ (zS3 M) Z.to,Z.i1.at λo q=>a _ o (zS3 L) q,Z.i2.at λo q=>a _ o (zS3 E) q,Z.i3.at λo q=>a _ o (zS3 J) q⟩
 refine zR7 (λ_=>?_) (λ_=>zN1 ⟨z35 zY3 _,key _ _ g d⟩);refine zM8 (zW9 ?_);refine zM8 ?_;show wpAny _ _ (updateSeq S (·.push .none) >>= λ_=>updateSeq S (·.pop)) _ _ _;refine zM8 (z22 g rfl ?_);obtain⟨Q,i⟩:∃p,((s.heap.update S (Obj.mapSeq (λ_=>(#[]:Array Value)))).update S (Obj.mapSeq (·.push Value.none))).get? S=some {cls:=.type "list",dict:=none,data:=.seq #[.none] p,slots:=#[]}:=⟨_,zY5 (c:="list") g λx=>x.push Value.none⟩;refine z22 (hz:=by seq_fits) i rfl ?_;obtain⟨a0,l⟩:∃p,(((s.heap.update S (Obj.mapSeq (λ_=>(#[]:Array Value)))).update S (Obj.mapSeq (·.push Value.none))).update S (Obj.mapSeq (·.pop))).get? S=some {cls:=.type "list",dict:=none,data:=.seq #[] p,slots:=#[]}:=⟨_,zY5 (c:="list") i λx=>x.pop⟩;refine zN1 ⟨z35 zY3 _,key _ _ l λb o hb e=>?_⟩;exact(zS4 _ _ (zS3 hb)).trans ((zS4 _ _ (zS3 hb)).trans (d b o hb e))
end
section
variable {X:Cx}{pins:List (Addr×Obj)}{σ:St}{H:Hp}{s:Shared}
theorem rG {A:Around}{E:Value->Shared->Prop}{Q:Value->Shared->Prop}{n l1 l2 l3:Nat}{xs ys zs:List V}(B:A.handled=none)(r:l1<n)(x:l2<n)(l:l3<n)(I:Inv X pins σ H s)(Z:wq s.heap n l1 l2 l3 0 .none (.bool false) .none .none .none)
  (C:∀b∈z3 n,H b=none) (v:∀b∈z3 n,∀H',H' b=none->yX X pins H' b)
  (f:SqL X.K H l1 xs) (g:SqL X.K H l2 ys) (i:SqL X.K H l3 zs) (t:ys.length=xs.length) (m:zs.length=xs.length) (h0:0<xs.length) (u:xs.length<=1000)
  (p:∀D s',s.heap.objs.size<=D->zp9 X pins σ H D xs ys zs s'->(∀H',H' D=none->yX X pins H' D)->Q (.ref D) s'):
  wpAny (model X.prog X.w) A (call (.type "list") [.ref (n+5:Nat)]) Q E s:=by
 refine callType_codes (Q₁:=λobj a=>obj=.ref s.heap.objs.size/\a={s with heap:=s.heap.push {cls:=.type "list",data:=.seq #[]}}) PySem.F.called_list (PySem.F.typeCall_list_1 _) PySem.F.entry_list_init
  (code_list_new _ ⟨rfl,rfl⟩) λobj a c=>?_
 obtain⟨rfl,rfl⟩:=c;have k:(s.heap.push {cls:=.type "list",data:=.seq #[]}).get? s.heap.objs.size=some {cls:=.type "list",data:=.seq #[]}:=zO2 _ rfl;have up:∀b o,s.heap.get? b=some o->(s.heap.push {cls:=.type "list",data:=.seq #[]}).get? b=some o:=λb o e=>zM9 _ e;have j:∀H':Hp,H' s.heap.objs.size=none->yX X pins H' s.heap.objs.size:=λH' h=>I.fpOk (zN5 _) h;have d:s.heap.objs.size∉z3 n:=λhb=>by
  have:∃o,s.heap.get? s.heap.objs.size=some o:=by
   simp only[z3,zN6,zP0,zR9]at hb;obtain⟨J,f,_⟩:=Z.i1;obtain⟨L,g,_⟩:=Z.i2;obtain⟨G,i,_⟩:=Z.i3;rcases hb with z|z|z|z|z|z<;>rw[z]
   ·exact⟨_,f⟩
   ·exact⟨_,g⟩
   ·exact⟨_,i⟩
   ·exact⟨_,Z.ti⟩
   ·exact⟨_,Z.to⟩
   ·exact⟨_,Z.z⟩
  obtain⟨o,q⟩:=this;exact absurd (zO4 q) (zT2 _)
 refine⟨⟨_,k,rfl⟩,PySem.F.args_list_init_2 _ _,gJ (A:=A.in1) B r x l (I.kept (t':=s.toks) up) ⟨up _ _ Z.z,up _ _ Z.ti,up _ _ Z.to,Z.i1.at λo q=>up _ o q,Z.i2.at λo q=>up _ o q,Z.i3.at λo q=>up _ o q⟩ k (I.hok.fresh (zN5 _)) C j v d f g i t m h0 u λs' y=>⟨rfl,p _ s' (zN5 _) y j⟩⟩
variable {a b c:Expr}{p p0 pos pos2:Pos}
theorem nN {M:TA}(hc:X.calm=true)(hgl:Gl X "list")(x:X.mg "list"=none)(hg:Gl X "zip")(hm:X.mg "zip"=none)(ha:PA X [a,b,c] M)
  (j:starEach [.Call (.Name "zip" p) [a,b,c] [] pos2] X.env=[(false,eval (.Call (.Name "zip" p) [a,b,c] [] pos2) X.env)]:=by rfl)
  (T:starEach [a,b,c] X.env=(false,eval a X.env)::starEach [b,c] X.env:=by rfl) (hpl:(backTo pos2 (starEach [b,c] X.env)).any (·.1)=false:=by rfl):
  PE X (.Call (.Name "list" p0) [.Call (.Name "zip" p) [a,b,c] [] pos2] [] pos) (λσ H Q=>M σ H λvs H1=>∃(l1 l2 l3:Addr) (xs ys zs:List V),vs=[.ref l1,.ref l2,.ref l3]/\SqL X.K H1 l1 xs/\SqL X.K H1 l2 ys/\SqL X.K H1 l3 zs/\ys.length=xs.length/\zs.length=xs.length/\0<xs.length/\xs.length<=1000/\
   ∀D H' vs,H1 D=none->(∀a o,H1 a=some o->H' a=some o)->H' D=some (.lst vs)->(∃i,(∀a o,i a=some o->a≠D/\H' a=some o)/\Tri H1 i xs ys zs vs xs.length)->Q (.ref D) H'):=by
 intro pins s σ H Q I h;refine Call_ (xD I hgl x boot_list (zU7 ?_ j rfl));rw[j];show wpAny _ _ (spliced ((false,eval _ X.env)::backTo pos [])) _ _ s;refine Calls.spliced_cons ?_;refine Call_ (xD I hg hm boot_zip (zU7 (thn (ha pos2 pins s σ H _ I h) λus s1 F=>?_) T hpl));obtain⟨vs,H1,f,d,q1⟩:=F;obtain⟨l1,l2,l3,xs,ys,zs,e,t,g,m,Y,e3,h0,N,q⟩:=q1;subst e;obtain⟨u,v,w,rfl,ru,S,C⟩:∃u v w,us=[u,v,w]/\RelV (.ref l1) u/\RelV (.ref l2) v/\RelV (.ref l3) w:=by
  cases d with
  |cons a d=>
   cases d with
   |cons b d=>
    cases d with
    |cons c d=>
     cases d;exact⟨_,_,_,rfl,a,b,c⟩
 cases(show u=Value.ref l1 from ru);cases(show v=Value.ref l2 from S);cases(show w=Value.ref l3 from C);obtain⟨R,a0,p1,a2⟩:=f.list t;obtain⟨L,a3,p2,a1⟩:=f.list g;obtain⟨P,a4,p3,a5⟩:=f.list m;refine ki p1.isList p2.isList p3.isList λh' Z sz hk=>?_;have B:l1<s1.heap.objs.size:=by obtain⟨o,e,_⟩:=p1.isList;exact zO4 e
 have y:l2<s1.heap.objs.size:=by obtain⟨o,e,_⟩:=p2.isList;exact zO4 e
 have E:l3<s1.heap.objs.size:=by obtain⟨o,e,_⟩:=p3.isList;exact zO4 e
 have le:∀b∈z3 s1.heap.objs.size,s1.heap.objs.size<=b:=λb hb=>by
  simp only[z3,zN6,zP0,zR9]at hb;have key:∀n b:Nat,(b=n\/b=n+1\/b=n+2\/b=n+3\/b=n+4\/b=n+5)->n<=b:=λn b h=>by lia
  exact key _ _ hb
 have J:Inv X pins σ H1 {s1 with heap:=h',toks:=s1.toks}:=f.kept λb o e=>hk b o e;refine zS9 (Q:=_) (show wpAny _ _ (spliced []) (λvs k=>vs=[]/\k={s1 with heap:=h'}) X.xe {s1 with heap:=h'}from zN1 ⟨rfl,rfl⟩) (λvs s2 U=>?_) λ_ _ z=>z;obtain⟨rfl,rfl⟩:=U;refine rG (s:={s1 with heap:=h'}) (I.ok.hd hc) B y E J Z (λb hb=>f.hok.fresh (le b hb)) (λb hb H' hn=>f.fpOk (le b hb) hn) t g m Y e3 h0 N λD s' lD ze fD=>?_;obtain⟨H',acc,vs,e,W,st,hD,O,G,r⟩:=ze.ex;have A:H1 D=none:=J.hok.fresh lD;have l:∀a o,H' a=some o->a≠D/\upd H' D (.lst vs) a=some o:=λa o q=>by
  have n:a≠D:=λz=>by rw[z,O]at q;cases q
  exact⟨n,by rw[zj n];exact q⟩
 refine⟨.ref D,upd H' D (.lst vs),W.adopt (fD H' O) ⟨?_,acc,e,G,hD⟩,rfl,q D _ vs A (λa o q=>(l a o (st a o q)).2) zm ⟨H',l,r⟩⟩;rw[r.1,zT1];exact zH7 N
end
def zc1 (a b c:PyData):PyData:=.tuple [a,b,c]
def xJ :List PyData->List PyData->List PyData->List PyData
 |a::as,b::bs,c::cs=>zc1 a b c::xJ as bs cs
 |_,_,_=>[]
theorem uU :∀{as bs cs:List PyData},bs.length=as.length->cs.length=as.length->(xJ as bs cs).length=as.length
 |[],_,_,_,_=>rfl
 |a::as,b::bs,c::cs,d,e=>by rw[xJ,zQ2,zQ2,uU (by simpa using d) (by simpa using e)]
theorem uJ :∀{as bs cs:List PyData}{j:Nat}{d:PyData},(xJ as bs cs)[j]?=some d->∃a b c,as[j]?=some a/\bs[j]?=some b/\cs[j]?=some c/\d=zc1 a b c
 |[],_,_,j,d,h=>by simp[xJ]at h
 |a::as,[],_,j,d,h=>by simp[xJ]at h
 |a::as,b::bs,[],j,d,h=>by simp[xJ]at h
 |a::as,b::bs,c::cs,0,d,h=>by simp[xJ]at h;exact⟨a,b,c,rfl,rfl,rfl,h.symm⟩
 |a::as,b::bs,c::cs,j+1,d,h=>by
  obtain⟨x,y,z,e1,g,f,e⟩:=uJ (as:=as) (bs:=bs) (cs:=cs) (j:=j) (d:=d) (by simpa[xJ]using h);exact⟨x,y,z,by simpa using e1,by simpa using g,by simpa using f,e⟩
theorem je {G:Hp}:∀{vs:List V}{ds:List PyData},vs.length=ds.length->(∀(j:Nat) d,ds[j]?=some d->∃v,vs[j]?=some v/\AV G v d)->AVs G vs ds
 |[],[],_,_=>.nil
 |v::vs,d::ds,b,h=>by
  obtain⟨c,e,a⟩:=h 0 d rfl;cases e;exact .cons a (je (by simpa using b) λj d' hd=>h (j+1) d' (by simpa using hd))
section
variable {X:Cx}{α:Ev}{a b c:Expr}{p p0 pos pos2:Pos}
theorem oZ {Q:List PyData->Prop}(hc:X.calm=true)(hgl:Gl X "list")(n:X.mg "list"=none)(hg:Gl X "zip")(hm:X.mg "zip"=none)
  (h:EvA X α [a,b,c] λas=>∃ds es fs,as=[.dat (.list ds),.dat (.list es),.dat (.list fs)]/\es.length=ds.length/\fs.length=ds.length/\0<ds.length/\ds.length<=1000/\Q (xJ ds es fs))
  (s:starEach [.Call (.Name "zip" p) [a,b,c] [] pos2] X.env=[(false,eval (.Call (.Name "zip" p) [a,b,c] [] pos2) X.env)]:=by rfl)
  (J:starEach [a,b,c] X.env=(false,eval a X.env)::starEach [b,c] X.env:=by rfl) (hpl:(backTo pos2 (starEach [b,c] X.env)).any (·.1)=false:=by rfl):
  EvL X α (.Call (.Name "list" p0) [.Call (.Name "zip" p) [a,b,c] [] pos2] [] pos) Q:=λF σ H R m k=>by
 refine⟨_,nN hc hgl n hg hm yR s J hpl,?_⟩;refine h F σ H _ m λas vs H1 M t1 v f=>?_;have m1:=m.kz v t1;obtain⟨ds,es,fs,rfl,l2,l3,N,lN,q⟩:=M;cases f with
 |cons K f=>
  cases f with
  |cons r2 f=>
   cases f with
   |cons U f=>
    cases f;obtain⟨a1,xs,rfl,g1,E⟩:=AV.lst_inv K;obtain⟨a2,ys,rfl,g2,w⟩:=AV.lst_inv r2;obtain⟨I,zs,rfl,g3,B⟩:=AV.lst_inv U;have g:=E.length;have P:=w.length;have T:=B.length;refine⟨a1,a2,I,xs,ys,zs,rfl,SqL.of (zi g1).2,SqL.of (zi g2).2,SqL.of (zi g3).2,(P.trans (l2.trans g.symm)),(T.trans (l3.trans g.symm)),(zN4 N (zO9 g.symm)),(zO0 (zO9 g) lN),λD H' vs l st r tr=>?_⟩;obtain⟨O,sb,i⟩:=tr;have C:zt H1 H':=λa o e=>st a o e;refine k _ _ H' q (t1.same C) (v.trans (Kz.of_same C)) ⟨D,vs,rfl,?_,r,?_⟩
    ·cases z:H D with
     |none=>rfl
     |some o=>rw[v D o z (m.tp.nt (ow0 (m1.fresh l)))]at l;cases l
    ·have u:zt (Gz F α σ H1) (sub (λx=>¬Ow F α σ x/\x≠D) H'):=zr λa o h e=>⟨⟨h,zo e l⟩,st a o e⟩;refine je (by rw[i.1,uU l2 l3];exact g) λj d hd=>?_;obtain⟨d1,d2,d3,e1,L,e3,rfl⟩:=uJ hd;have hj:j<xs.length:=by rw[g];exact(zN8.mp e1).1
     obtain⟨t,x,y,z,f1,f2,f3,f4,f5,Z⟩:=i.2 j hj;obtain⟨x',ex,W⟩:=E.get e1;obtain⟨y',G,Y⟩:=w.get L;obtain⟨z',A,S⟩:=B.get e3;rw[f2]at ex;cases ex;rw[f3]at G;cases G;rw[f4]at A;cases A;obtain⟨nt,V⟩:=sb t _ f5;exact⟨_,f1,.tup (zF ⟨m1.fresh Z,nt⟩ V) (.cons (W.same u) (.cons (Y.same u) (.cons (S.same u) .nil)))⟩
theorem lu {ns:List Int}{its:List Value}(h:Vals (ns.map V.int) its):∃ps:List (Int×Tok),its=ps.map (λp=>Value.int p.1 p.2)/\ps.map (·.1)=ns:=by
 induction ns generalizing its with
 |nil=>cases h;exact⟨[],rfl,rfl⟩
 |cons n ns f=>cases h with
  |cons h d=>
   obtain⟨ps,e1,e⟩:=f d;obtain⟨t,rfl⟩:=h;exact⟨(n,t)::ps,by rw[e1];rfl,by rw[<-e];rfl⟩
theorem sJ (ps:List (Int×Tok))(k:Nat):numAt ps.toArray k=(ps.map (·.1)).getD k 0:=by
 unfold numAt;rw[List.getElem?_toArray,zN3,zO8]
theorem wD (ps:List (Int×Tok)):∀k,k<=ps.length->preSum (numAt ps.toArray) k=((ps.map (·.1)).take k).sum
 |0,_=>by simp[preSum]
 |k+1,h=>by
  have hk:k<(ps.map (·.1)).length:=by rw[zN0];exact zN4 (zT3 _) h
  rw[preSum,wD ps k (zO0 (zP2 _ _) h),sJ,zZ3,zN2 hk,List.sum_append,zN3,zN2 hk];simp
def Fits (ns:List Int):Prop:=∀k,k<=ns.length->-(2 ^ 62)<=(ns.take k).sum/\(ns.take k).sum<2 ^ 62
theorem gr (v:X.calm=true):xl X (.builtin "sum") (λxs H Q=>∃(l:Addr) (ns:List Int),xs=[.ref l]/\SqL X.K H l (ns.map V.int)/\(∀n∈ns,-(2 ^ 62)<=n/\n<2 ^ 62)/\Fits ns/\Q (.int ns.sum) H):=by
 intro pins s σ H xs us Q I r h;obtain⟨l,ns,rfl,k,hb,hf,q⟩:=h;obtain⟨u,rfl,m⟩:=Vals.one r;cases(show u=Value.ref l from m);obtain⟨its,i,p,hz⟩:=I.list k;obtain⟨ps,rfl,rfl⟩:=lu i;have o:s.heap.IsList l (intItems ps.toArray):=by
  have:=p.isList
  rwa [show intItems ps.toArray=(ps.map λp=>Value.int p.1 p.2).toArray by simp[intItems]]
 refine sum_intList (I.ok.hd v) o (λj t=>?_) λh' tk t' hk=>?_
 ·have d:j<ps.length:=by simpa using t
  have hk:j<(ps.map (·.1)).length:=by rw[zN0];exact d
  rw[wD ps (j+1) (d),sJ,zN3,zN2 hk];have e:=hb _ (zS7 hk);have g:=hf (j+1) (hk);refine⟨⟨?_,?_⟩,?_,?_⟩
  ·show -(2 ^ 63)<=(ps.map (·.1))[j];exact zi2 e.1
  ·show(ps.map (·.1))[j]<2 ^ 63;exact zh0 e.2
  ·exact zi2 g.1
  ·exact zh0 g.2
 ·rw[show preSum (numAt ps.toArray) ps.toArray.size=(ps.map (·.1)).sum by rw[zO3,wD ps ps.length (zN5 _),<-zN0 (f:=(·.1)) (as:=ps),zU3]];exact⟨.int _,H,I.kept (t':=tk) hk,⟨_,rfl⟩,q⟩
theorem tV {Q:PyData->Prop}{e:Expr}(j:X.calm=true)(hg:Gl X "sum")(hm:X.mg "sum"=none)(h:EvD X α e λx=>∃ns:List Int,x=.list (ns.map .int)/\(∀n∈ns,-(2 ^ 62)<=n/\n<2 ^ 62)/\Fits ns/\Q (.int ns.sum))(he:starEach [e] X.env=(false,eval e X.env)::starEach [] X.env:=by rfl):
  EvD X α (.Call (.Name "sum" p) [e] [] pos) Q:=by
 refine uf (gr j) hg hm boot_sum (zl (h.imp λx d=>?_) he) (he:=he);obtain⟨ns,e1,hb,hf,q⟩:=d;refine zu ?_;intro F σ H vs R m f k;subst e1;obtain⟨v,rfl,av⟩:=f.one;obtain⟨a,xs,rfl,g,i⟩:=av.lst_inv;cases i.ints;exact⟨a,ns,rfl,SqL.of (zi g).2,hb,hf,k _ _ H q m.tp Kz.refl (.int _)⟩
end
def zC :List Int->List Bool->List Int
 |z::zs,b::bs=>if b=true then zC zs bs else z::zC zs bs
 |_,_=>[]
theorem uw :∀{zs:List Int}{bs:List Bool}{z:Int},z∈zC zs bs->z∈zs
 |[],_,z,h=>by simp[zC]at h
 |y::zs,[],z,h=>by simp[zC]at h
 |y::zs,b::bs,z,h=>by
  rw[zC]at h;split at h
  ·exact zN7 _ (uw h)
  ·rcases zN6.mp h with e|h
   ·rw[e];exact zO1
   ·exact zN7 _ (uw h)
theorem qK :∀(zs:List Int) (bs:List Bool),(zC zs bs).length<=zs.length
 |[],_=>by simp[zC]
 |y::zs,[]=>by simp[zC]
 |y::zs,b::bs=>by
  rw[zC];have:=qK zs bs;split
  ·rw[zQ2];exact zO0 this (zP2 _ _)
  ·rw[zQ2,zQ2];exact Nat.add_le_add this (zN5 _)
theorem sum_bound :∀{ns:List Int}{m:Int},0<=m->(∀n∈ns,0<=n/\n<=m)->0<=ns.sum/\ns.sum<=ns.length*m
 |[],m,_,_=>by simp
 |n::ns,m,h0,h=>by
  obtain⟨a,b⟩:=sum_bound h0 λx c=>h x (zN7 _ c);have:=h n zO1;rw[zY0,zQ2,Int.natCast_add,Int.add_mul]
  constructor
  ·exact Int.add_nonneg this.1 a
  ·simp;exact zJ6 this.2 b
theorem rN {ns:List Int}(h:∀n∈ns,0<=n/\n<=1000000000000)(c:ns.length<=1000):Fits ns:=λk hk=>by
 obtain⟨a,b⟩:=sum_bound (ns:=ns.take k) (m:=1000000000000) (by decide) λn hn=>h n (zV1 hn);have:((ns.take k).length:Int)*1000000000000<=1000*1000000000000:=by
  apply Int.mul_le_mul_of_nonneg_right _ (by decide);rw[zP7];exact zI8 c
 lia
def zt3 (p:Nat):PyData->PyData
 |.tuple [a,b,c]=>if p=1 then b else c
 |_=>.none
def tP :PyData->Bool
 |.tuple [_,_,.bool b]=>b
 |_=>false
theorem sr :∀{ds:List PyData}{zs:List Int}{bs:List Bool},zs.length=ds.length->bs.length=ds.length->((xJ ds (zs.map .int) (bs.map .bool)).filter λd=>!tP d).map (zt3 1)=(zC zs bs).map .int
 |[],[],[],_,_=>rfl
 |d::ds,z::zs,b::bs,c,e=>by
  have a:=sr (ds:=ds) (zs:=zs) (bs:=bs) (by simpa using c) (by simpa using e);rw[zR6,zR6,xJ,zC,z28];cases b with
  |true=>simpa[tP,zc1]using a
  |false=>simp[tP,zc1,zt3];exact a
def yL (d:PyData)(zs:List Int)(bs:List Bool):Prop:=(d=.none/\bs=List.replicate zs.length false)\/∃many free:Nat,d=.tuple [.int many,.int free]/\vo zs many free zs.length bs
theorem yL.len {d:PyData}{zs:List Int}{bs:List Bool}(h:yL d zs bs):bs.length=zs.length:=by
 rcases h with⟨_,rfl⟩|⟨_,_,_,h⟩
 ·simp
 ·exact h.1
def zx :List Int->List Bool->Int
 |z::zs,b::bs=>(if b=true then z else 0)+zx zs bs
 |_,_=>0
theorem wa :∀{zs:List Int}{bs:List Bool},bs.length=zs.length->(zC zs bs).sum=zs.sum-zx zs bs
 |[],[],_=>by simp[zC,zx]
 |z::zs,b::bs,h=>by
  have a:=wa (zs:=zs) (bs:=bs) (by simpa using h);rw[zC,zx,zY0];cases b with
  |true=>rw[if_pos rfl,if_pos rfl,a];lia
  |false=>rw[if_neg (by decide),if_neg (by decide),zY0,a];lia
theorem vg :∀{zs ys:List Int}{bs cs:List Bool},bs.length=zs.length->zx (zs++ys) (bs++cs)=zx zs bs+zx ys cs
 |[],ys,[],cs,_=>by simp[zx]
 |z::zs,ys,b::bs,cs,h=>by
  rw[z29,z29,zx,zx,vg (by simpa using h)];exact zM5
theorem vC :∀{zs:List Int}{bs:List Bool},(∀b∈bs,b=false)->zx zs bs=0
 |[],_,_=>by simp[zx]
 |_::_,[],_=>by simp[zx]
 |z::zs,b::bs,h=>by
  rw[zx,h b zO1,vC λx a=>h x (zN7 _ a)];rfl
theorem oN :∀{zs ys:List Int}{bs:List Bool},ys.length=zs.length->(∀i,i<zs.length->zs.getD i 0<=ys.getD i 0)->zx zs bs<=zx ys bs
 |[],[],_,_,_=>by simp[zx]
 |_::_,_::_,[],_,_=>by simp[zx]
 |z::zs,y::ys,b::bs,a,h=>by
  have c:=oN (zs:=zs) (ys:=ys) (bs:=bs) (by simpa using a) λi hi=>by
   have:=h (i+1) (by simpa using hi);simpa using this
  have h0:=h 0 (by simp);simp at h0;rw[zx,zx];split<;>lia
theorem xS :∀{zs ys:List Int}{bs:List Bool}{d:Int},ys.length=zs.length->ys.sum=zs.sum+d->(∀i,i<zs.length->zs.getD i 0<=ys.getD i 0)->zx ys bs<=zx zs bs+d
 |[],[],_,d,_,a,_=>by simp[zx]at a ⊢;exact Int.le_of_eq a
 |z::zs,y::ys,[],d,c,a,h=>by
  have e:=xS (zs:=zs) (ys:=ys) (bs:=[]) (d:=d-(y-z)) (by simpa using c) (by rw[zY0,zY0]at a;exact zi5 a) λi hi=>by
   have:=h (i+1) (by simpa using hi);simpa using this
  have h0:=h 0 (by simp);simp at h0;have e1:zx ys []=0:=by cases ys<;>rfl
  have f:zx zs []=0:=by cases zs<;>rfl
  rw[e1,f]at e;show(0:Int)<=0+d
  lia
 |z::zs,y::ys,b::bs,d,c,a,h=>by
  have e:=xS (zs:=zs) (ys:=ys) (bs:=bs) (d:=d-(y-z)) (by simpa using c) (by rw[zY0,zY0]at a;exact zi5 a) λi hi=>by
   have:=h (i+1) (by simpa using hi);simpa using this
  have h0:=h 0 (by simp);simp at h0;rw[zx,zx];split<;>lia
theorem oJ {t:Int}:∀{zs:List Int}{bs cs:List Bool},bs.length=zs.length->cs.length=zs.length->(∀i,i<zs.length->(bs.getD i false=true->zs.getD i 0<=t)/\(bs.getD i false=false->t<=zs.getD i 0))->
  zx zs bs-t*(bs.count true:Nat)<=zx zs cs-t*(cs.count true:Nat)
 |[],[],[],_,_,_=>by simp[zx]
 |z::zs,b::bs,c::cs,e,f,h=>by
  have g:=oJ (t:=t) (zs:=zs) (bs:=bs) (cs:=cs) (by simpa using e) (by simpa using f) λi hi=>by
   have:=h (i+1) (by simpa using hi);simpa using this
  have h0:=h 0 (by simp);simp only[List.getD_cons_zero]at h0;rw[zx,zx];have d:t*(((b::bs).count true:Nat):Int)=t*(bs.count true:Nat)+(if b=true then t else 0):=by
   cases b with
   |true=>rw[List.count_cons_self,Int.natCast_add,Int.mul_add,if_pos rfl];simp
   |false=>rw[List.count_cons_of_ne (by decide),if_neg (by decide)];simp
  have a:t*(((c::cs).count true:Nat):Int)=t*(cs.count true:Nat)+(if c=true then t else 0):=by
   cases c with
   |true=>rw[List.count_cons_self,Int.natCast_add,Int.mul_add,if_pos rfl];simp
   |false=>rw[List.count_cons_of_ne (by decide),if_neg (by decide)];simp
  rw[d,a];generalize t*((bs.count true:Nat):Int)=x at *;generalize t*((cs.count true:Nat):Int)=y at *;cases b with
  |true=>
   have:=h0.1 rfl;cases c<;>simp<;>lia
  |false=>
   have:=h0.2 rfl;cases c<;>simp<;>lia
theorem mJ {zs ms:List Int}{lo many free:Nat}{bs cs:List Bool}(s:uz (zp (lo:Int) many) zs ms)(hz:lo+many<=zs.length)(hb:bs.length=zs.length)(h:∀q,q<many->bs.getD (ms.getD q 0).toNat false=decide (q<free))(f0:0<free)(hf:free<=many)(h0:∀z∈zs,0<=z)
  (n:cs.length=many) (hn:free<=cs.count true):zx ((zs.drop lo).take many) ((bs.drop lo).take many)<=zx ((zs.drop lo).take many) cs:=by
 have d:ms.length=many:=by rw[s.1.length_eq,zb]
 have f:((zs.drop lo).take many).length=many:=by rw[zP7,zQ9];exact zg7 hz
 have k:((bs.drop lo).take many).length=many:=by rw[zP7,zQ9];exact zC0 hz hb
 have gb:∀a,a<many->((bs.drop lo).take many).getD a false=bs.getD (lo+a) false:=λa ha=>by rw[zN3,zN3,z26 ha,List.getElem?_drop]
 have gz:∀a,a<many->((zs.drop lo).take many).getD a 0=zs.getD (lo+a) 0:=λa ha=>by rw[zN3,zN3,z26 ha,List.getElem?_drop]
 have up:∀p q,p<q->q<many->zs.getD (ms.getD p 0).toNat 0<=zs.getD (ms.getD q 0).toNat 0:=λp q b hq=>by
  have w:=zV4.mp s.2 p q (z05 b (zN4 hq (zO9 d.symm))) (zN4 hq (zO9 d.symm)) b;have w:=z61 (show decide _=false from w);simp only[keyOf]at w;rw[zN3 (l:=ms),zN3 (l:=ms),zN2 (z05 b (zN4 hq (zO9 d.symm))),zN2 (zN4 hq (zO9 d.symm))];simp only[Option.getD_some]
  lia
 have line:=oJ (t:=zs.getD (ms.getD (free-1) 0).toNat 0) (zs:=(zs.drop lo).take many) (bs:=(bs.drop lo).take many) (cs:=cs) (by rw[k,f]) (by rw[n,f]) λi hi=>by
  rw[f]at hi;rw[gb i hi,gz i hi];obtain⟨q,hq,e⟩:=zr3 s (m:=((lo+i:Nat):Int)) (Int.ofNat_le.2 (zP2 _ _)) (zA8 hi);have j:=h q hq;rw[e,zS2]at j;have eq:zs.getD (lo+i) 0=zs.getD (ms.getD q 0).toNat 0:=by rw[e,zS2]
  rw[j,eq]
  constructor
  ·intro hd;have hd:=zX6 hd;by_cases he:q=free-1
   ·rw[he];exact zV3 _
   ·exact up q (free-1) (by lia) (zj7 f0 hf)
  ·intro hd;have hd:=z61 hd;exact up (free-1) q (by lia) hq
 have c:=ur s (zO0 hz (zO9 hb.symm)) h hf;rw[c]at line;have t0:0<=zs.getD (ms.getD (free-1) 0).toNat 0:=by
  have:=xU s (q:=free-1) (zj7 f0 hf);have g:(ms.getD (free-1) 0).toNat<zs.length:=by lia
  rw[zN3 (l:=zs),zN2 g];exact h0 _ (zS7 _)
 generalize zs.getD (ms.getD (free-1) 0).toNat 0=t at *;have:t*(free:Nat)<=t*(cs.count true:Nat):=Int.mul_le_mul_of_nonneg_left (Int.ofNat_le.2 hn) t0
 lia
theorem qM {zs ys:List Int}{many free a:Nat}{bs cs:List Bool}(mk:vo zs many free zs.length bs)(mk':vo ys many a ys.length cs)(d:ys.length=zs.length)(f0:0<free)(b:free<=a)(hf:a<=many)(h0:∀z∈zs,0<=z):
  ∀k,k<=zs.length / many->zx (zs.take (k*many)) (bs.take (k*many))<=zx (zs.take (k*many)) (cs.take (k*many))
 |0,_=>by simp[zx]
 |k+1,hk=>by
  obtain⟨ms,s,f⟩:=mk.2.2 k hk;obtain⟨g,s',i⟩:=mk'.2.2 k (by rw[d];exact hk);have c:(k+1)*many<=zs.length:=zO0 (z50 _ hk) (Nat.div_mul_le_self _ _);rw[z70,Nat.one_mul]at c ⊢;have j:=mk.1;have e:=mk'.1;have h:=qM mk mk' d f0 b hf h0 k (zO0 (zP2 _ _) hk);have one:=mJ (cs:=(cs.drop (k*many)).take many) s c j f f0 (zO0 b hf) h0 (by rw[zP7,zQ9];lia) (by rw[ur s' (zO0 c (zO9 (Eq.trans d.symm e.symm))) i hf];exact b);rw[z36,z36,z36,vg (by rw[zP7,zP7];lia),vg (by rw[zP7,zP7];lia)];exact Int.add_le_add h one
theorem dn {zs:List Int}{many free:Nat}{bs:List Bool}(ys:List Int)(hy:ys.length=zs.length)(mk:vo zs many free zs.length bs):zx ys bs=zx (ys.take (zs.length / many*many)) (bs.take (zs.length / many*many)):=by
 have hw:=Nat.div_mul_le_self zs.length many;have c:=mk.1;have e1:zx ys bs=zx (ys.take (zs.length / many*many)++ys.drop (zs.length / many*many)) (bs.take (zs.length / many*many)++bs.drop (zs.length / many*many)):=by rw[zP3,zP3]
 rw[e1,vg (by rw[zP7,zP7];lia),vC (zs:=ys.drop _) (bs:=bs.drop _) λb hb=>?_,Int.add_zero];obtain⟨j,a,rfl⟩:=zT8.mp hb;rw[z42];rw[zQ9]at a;have:=mk.2.1 (zs.length / many*many+j) (zP2 _ _);rw[zN3,zN2 (zG6 a)]at this;exact this
theorem fQ {zs ys:List Int}{many free a:Nat}{bs cs:List Bool}(mk:vo zs many free zs.length bs)(mk':vo ys many a ys.length cs)(b:ys.length=zs.length)(f0:0<free)(c:free<=a)(hf:a<=many)(h0:∀z∈zs,0<=z):zx zs bs<=zx zs cs:=by
 have d:=dn zs b.symm mk';rw[b]at d;rw[dn zs rfl mk,d];exact qM mk mk' b f0 c hf h0 _ (zN5 _)
def pN (d:PyData):Prop:=d=.none\/∃many free:Nat,d=.tuple [.int many,.int free]/\0<free/\free<many/\many<64
theorem rE {many free:Nat}{zs:List Int}{bs:List Bool}(h:yL (.tuple [.int many,.int free]) zs bs):vo zs many free zs.length bs:=by
 rcases h with⟨h,_⟩|⟨e,d,h,mk⟩
 ·cases h
 ·injection h with h;injection h with b a;injection a with a _;injection b with b;injection a with a;have e1:e=many:=(zj1 b);have c:d=free:=(zj1 a);rw[e1,c]at mk;exact mk
theorem rZ {zs:List Int}{bs:List Bool}(h:yL .none zs bs):zx zs bs=0:=by
 rcases h with⟨_,rfl⟩|⟨_,_,h,_⟩
 ·exact vC λb hb=>(List.mem_replicate.mp hb).2
 ·cases h
theorem mM {d:PyData}{zs ys:List Int}{bs cs:List Bool}{e:Int}(hb:yL d zs bs)(c:yL d ys cs)(hd:pN d)(a:ys.length=zs.length)(b:ys.sum=zs.sum+e)(hle:∀i,i<zs.length->zs.getD i 0<=ys.getD i 0)(h0:∀z∈zs,0<=z)(g:∀z∈ys,0<=z):
  (zC zs bs).sum<=(zC ys cs).sum/\(zC ys cs).sum<=(zC zs bs).sum+e:=by
 rw[wa hb.len,wa c.len,b];rcases hd with rfl|⟨many,free,rfl,f0,f,_⟩
 ·rw[rZ hb,rZ c];have:=xS (bs:=[]) a b hle;have e1:zx ys []=0:=by cases ys<;>rfl
  have h:zx zs []=0:=by cases zs<;>rfl
  rw[e1,h]at this
  lia
 ·have mk:=rE hb;have mk':=rE c;have a1:=fQ mk mk' a f0 (zN5 _) (zR4 f) h0;have a2:=fQ mk' mk a.symm f0 (zN5 _) (zR4 f) g;have j:=oN (bs:=cs) a hle;have k:=xS (bs:=bs) a b hle
  lia
theorem zd8 {zs:List Int}{bs:List Bool}(hb:yL .none zs bs):(zC zs bs).sum=zs.sum:=by
 rw[wa hb.len,rZ hb];exact zA7
section
variable {κ:Type}[DecidableEq κ]
def qm (kvs:List (κ×V))(k:κ):Option V:=(kvs.find? λa=>decide (a.1=k)).map (·.2)
theorem sq {p:κ×V}{r:List (κ×V)}{k:κ}(e:p.1=k):qm (p::r) k=some p.2:=by simp[qm,zU1,e]
theorem sZ {p:κ×V}{r:List (κ×V)}{k:κ}(e:¬p.1=k):qm (p::r) k=qm r k:=by simp[qm,zU1,e]
theorem vp.isSome_eq {o:Option V}{u:Option Value}(r:vp o u):o.isSome=u.isSome:=by
 cases o with
 |none=>cases u with
  |none=>rfl
  |some _=>exact(show False from r).elim
 |some _=>cases u with
  |none=>exact(show False from r).elim
  |some _=>rfl
theorem KV.val {kvs:List (κ×V)}{vs:List (κ×Value)}(r:KV kvs vs)(k:κ):vp (qm kvs k) (valueAt vs k):=by
 unfold KV at r
 induction r with
 |nil=>exact True.intro
 |@cons p q ps qs h t ih=>
  obtain⟨c,d⟩:=h;by_cases e:p.1=k
  ·have a:q.1=k:=c.symm.trans e;have b:valueAt (q::qs) k=some q.2:=by simp[valueAt,zU1,a]
   rw[sq e,b];exact d
  ·have a:¬q.1=k:=λz=>e (c.trans z);have b:valueAt (q::qs) k=valueAt qs k:=by simp[valueAt,zU1,a]
   rw[sZ e,b];exact ih
end
theorem cF {P:Program}{w:World}{k:Key}{u:Value}(r:RelV (kV k) u):(yE P w).is k u=true:=by
 cases k with
 |inl i=>obtain⟨t,e⟩:=(show ∃t,u=Value.int i t from r);subst e;exact mD P w i t
 |inr x=>obtain⟨t,e⟩:=(show ∃t,u=Value.str x t from r);subst e;exact nM P w x t
theorem qR {P:Program}{w:World}:∀{ks:List Key}{us:List Value},Vals (ks.map kV) us->ItemsAre (yE P w) ks us
 |[],_,r=>by rw[List.map_nil]at r;cases r;exact .nil
 |k::ks,_,r=>by
  rw[zR6]at r;cases r with
  |cons h t=>exact .cons (cF h) (qR t)
abbrev KT (H:Hp):List (List Key×V)->List (List Key×Addr×Value)->Prop:=Paired λp q=>p.1=q.1/\H q.2.1=some (.tup (p.1.map kV))/\RelV p.2 q.2.2
theorem KT.val {H:Hp}{kvs:List (List Key×V)}{xs:List (List Key×Addr×Value)}(r:KT H kvs xs)(k:List Key):vp (qm kvs k) ((atKey xs k).map (·.2)):=by
 induction r with
 |nil=>exact True.intro
 |@cons p q ps qs h t ih=>
  obtain⟨c,_,d⟩:=h;by_cases e:p.1=k
  ·have a:q.1=k:=c.symm.trans e;have b:atKey (q::qs) k=some q.2:=by simp[atKey,zU1,a]
   rw[sq e,b];exact d
  ·have a:¬q.1=k:=λz=>e (c.trans z);have b:atKey (q::qs) k=atKey qs k:=by simp[atKey,zU1,a]
   rw[sZ e,b];exact ih
section
variable {P:Program}{w:World}{H:Hp}{h:Heap}{a:Addr}
theorem zm5 {u:HO}(ok:HOk P w H h)(e:Rd H a u):zT P w H h a u:=e.ok ok
theorem eB {kvs:List (Key×V)}(ok:HOk P w H h)(e:Rd H a (.dK kvs)):kvs.length<=sizeLine/\(a == sysModules)=false/\∃vs,KV kvs vs/\h.DictOf (yE P w) a vs:=
 show zT P w H h a (.dK kvs)from zm5 ok e
theorem mI {ks:List Key}(ok:HOk P w H h)(e:H a=some (.tup (ks.map kV))):(tupleKind (yE P w)).is h ks a:=by
 obtain⟨_,its,r,o,b,c,n,d⟩:=(show zT P w H h a (.tup (ks.map kV))from ok a _ e);exact⟨o,its.toArray,n,b,c,d,by simpa using qR r⟩
theorem bP {kvs:List (List Key×V)}(ok:HOk P w H h)(e:Rd H a (.dT kvs)):kvs.length<=sizeLine/\(a == sysModules)=false/\
  ∃xs,KT H kvs xs/\h.DictOfH (tupleKind (yE P w)) a xs:=by
 obtain⟨z,y,xs,r,o,es,ep,f,g,c,i,d⟩:=(show zT P w H h a (.dT kvs)from zm5 ok e);refine⟨z,y,xs,r,o,es,ep,f,g,c,i,λx b=>?_,d⟩;have all:∀{l:List (List Key×V)} {m:List (List Key×Addr×Value)},KT H l m->∀x∈m,(tupleKind (yE P w)).is h x.1 x.2.1:=by
  intro l m q
  induction q with
  |nil=>intro x b;exact nomatch b
  |@cons p q ps qs hq t ih=>
   intro x b;rcases zN6.mp b with e|b
   ·subst e;exact mI ok (by rw[<-hq.1];exact hq.2.1)
   ·exact ih x b
 exact all r x b
end
def fH (H:Hp)(a:Addr)(y:V)(r:Option V):Prop:=
 (∃kvs k,Rd H a (.dK kvs)/\y=kV k/\r=qm kvs k)\/∃kvs k b,Rd H a (.dT kvs)/\y=.ref b/\H b=some (.tup (k.map kV))/\r=qm kvs k
section
variable {X:Cx}{pins:List (Addr×Obj)}{σ:St}{H:Hp}{s:Shared}{a:Addr}{y v:V}{u r:Value}{o:Option V}{A:Around}{E:Value->Shared->Prop}
theorem ir {Q:Value->Shared->Prop}(q:A.units+1<cLine)(I:Inv X pins σ H s)(g:fH H a y (some v))(m:RelV y u)(h:∀d s',Inv X pins σ H s'->RelV v d->Q d s'):
  wpAny (model X.prog X.w) A (getItem (.ref a) u) Q E s:=by
 rcases g with⟨kvs,k,e,i,l⟩|⟨kvs,k,b,e,i,n,l⟩
 ·subst i;obtain⟨z,hd,vs,rel,j⟩:=eB I.hok e;obtain⟨d,hw,c⟩:=vp.some_of (v:=v) (o:=valueAt vs k) (by rw[l];exact rel.val k);exact wpAny_getItem_of (cF m) j.mapOf hw (h d _ (I.tok _) c)
 ·subst i;cases(show u=Value.ref b from m);obtain⟨z,hd,xs,rel,j⟩:=bP I.hok e;obtain⟨d,hw,c⟩:=vp.some_of (v:=v) (o:=(atKey xs k).map (·.2)) (by rw[l];exact rel.val k);obtain⟨p,t,f⟩:=zQ0.mp hw;refine wpAny_getItem_heap (tupleKind_room_in1 q) (mI I.hok n) j t ?_;rw[f];exact h d _ (I.tok _) c
theorem zK5 {Q:Value->Shared->Prop}(j:A.units+1<cLine)(I:Inv X pins σ H s)(g:fH H a y o)(f:RelV y u)(h:∀s',Inv X pins σ H s'->Q (.bool o.isSome) s'):
  wpAny (model X.prog X.w) A (compareOp .In u (.ref a)) Q E s:=by
 rcases g with⟨kvs,k,e,c,l⟩|⟨kvs,k,b,e,c,i,l⟩
 ·subst c;obtain⟨z,hd,vs,rel,d⟩:=eB I.hok e;refine wpAny_in_of (cF f) hd d.mapOf ?_;rw[<-(rel.val k).isSome_eq,<-l];exact h _ (I.tok _)
 ·subst c;cases(show u=Value.ref b from f);obtain⟨z,hd,xs,rel,d⟩:=bP I.hok e;refine wpAny_in_heap (tupleKind_room_in1 j) (mI I.hok i) hd d ?_;have q:=(rel.val k).isSome_eq;rw[Option.isSome_map]at q;rw[<-q,<-l];exact h _ (I.tok _)
end
section
variable {X:Cx}{pins:List (Addr×Obj)}{σ:St}{H:Hp}{s:Shared}{a:Addr}{kvs:List (Key×V)}{k:Key}{u:Value}{A:Around}{E:Value->Shared->Prop}
end
theorem mj {X:Cx}{pins:List (Addr×Obj)}{σ:St}{H:Hp}{s:Shared}{a:Addr}{y:V}{o:Option V}(I:Inv X pins σ H s)(g:fH H a y o):s.TypeIs (.ref a) "dict":=by
 rcases g with⟨kvs,k,e,_,_⟩|⟨kvs,k,b,e,_,_,_⟩
 ·obtain⟨_,_,vs,_,c⟩:=eB I.hok e;exact c.typeIs
 ·obtain⟨_,_,xs,_,c⟩:=bP I.hok e;exact c.typeIs
section
variable {X:Cx}{o i e value:Expr}{pos pos' tpos:Pos}{td ty tv:TE}
end
section
variable {X:Cx}{pos:Pos}
end
section
variable {X:Cx}{pins:List (Addr×Obj)}{σ:St}{H:Hp}{s:Shared}{a:Addr}{y d:V}{u r:Value}{o:Option V}{A:Around}{E:Value->Shared->Prop}
end
section
variable {X:Cx}{o e f:Expr}{apos cpos:Pos}{td ty tx:TE}
end
section
variable {X:Cx}{pins:List (Addr×Obj)}{σ:St}{H:Hp}{s:Shared}{a:Addr}{kvs:List (Key×V)}{A:Around}{E:Value->Shared->Prop}
end
section
variable {X:Cx}{pins:List (Addr×Obj)}{σ:St}{H:Hp}{s:Shared}{a:Addr}{y:V}{u:Value}{A:Around}{E:Value->Shared->Prop}
end
def kEq :PyData->Key->Bool
 |.int i,.inl j=>decide (i=j)
 |.str x,.inr y=>decide (x=y)
 |_,_=>false
theorem cN (k j:Key):kEq (ny k) j=decide (k=j):=by
 cases k<;>cases j<;>simp[kEq,ny]
def aY :List (PyData×PyData)->Key->Option PyData
 |[],_=>none
 |(p,d)::r,k=>if kEq p k=true then some d else aY r k
theorem AVk.get {H:Hp}:∀{kvs:List (Key×V)}{ds:List (PyData×PyData)}{k:Key}{d:PyData},AVk H kvs ds->aY ds k=some d->∃v,qm kvs k=some v/\AV H v d
 |_,_,k,d,.nil,e=>by cases e
 |_,_,k,d,.cons (k:=j) h r,e=>by
  unfold aY at e;rw[cN]at e;by_cases z:j=k
  ·rw[zS0 z,if_pos rfl]at e;cases e;exact⟨_,sq z,h⟩
  ·rw[zQ3 z,if_neg (by decide)]at e;rw[sZ z];exact AVk.get r e
theorem aQ {H:Hp}{v:V}{k:Key}(h:AV H v (ny k)):v=kV k:=by
 cases k with
 |inl i=>exact h.int_inv
 |inr x=>exact h.str_inv
theorem AV.dk_inv {H:Hp}{v:V}{ds:List (PyData×PyData)}(h:AV H v (zc4 ds)):∃a o kvs,v=.ref a/\H a=some (.frz o (.dK kvs))/\AVk H kvs ds:=by
 generalize e:zc4 ds=d at h;cases h with
 |dk b c=>cases e;exact⟨_,_,_,rfl,b,c⟩
 |_=>cases e
section
variable {X:Cx}{pins:List (Addr×Obj)}{σ:St}{H:Hp}{s:Shared}{l:Addr}{kvs:List (Key×V)}
end
section
variable {X:Cx}{e:Expr}{sts:List Stmt}
end
section
variable {X:Cx}{α:Ev}{e a b:Expr}{pos p:Pos}{Q:PyData->Prop}
end
section
variable {X:Cx}{α:Ev}{e a b:Expr}{pos p:Pos}{Q:PyData->Prop}
end
section
variable {X:Cx}{tg:Expr}
end
section
variable {X:Cx}{α:Ev}{e a b tg:Expr}{pos p:Pos}{Q:List PyData->Prop}
end
mutual
def ltD :PyData->PyData->Option Bool
 |.int a,.int b=>some (decide (a<b))
 |.str a,.str b=>some (decide (a.cps.toList<b.cps.toList))
 |.tuple xs,.tuple ys=>zB3 xs ys
 |_,_=>none
def zB3 :List PyData->List PyData->Option Bool
 |[],[]=>some false
 |[],_::_=>some true
 |_::_,[]=>some false
 |x::xs,y::ys=>if PyData.eqv x y=true then zB3 xs ys else ltD x y
end
section
open PySem.SeqAt
open PySem.AutoSeq1 (wpAny_loadPart')
open PySem.MeetsSeq PySem.MeetsSeq2 PySem.MeetsSeq3
end
section
variable {prog:Program}{w:World}{A:Around}{R:Result->Shared->Prop}{it:Addr}{fp wr:List Addr}{m:Nat}{P:Nat->Value->Prop}{St:Nat->Heap->Prop}
end
section
variable {prog:Program}{w:World}{A:Around}{E:Value->Shared->Prop}{s:Shared}
end
section
variable {X:Cx}{α:Ev}{e:Expr}{pos p:Pos}{Q:PyData->Prop}
theorem AVs.intsV {H:Hp}{xs:List V}{zs:List Int}(h:AVs H xs (zs.map .int)):xs=zs.map V.int:=by
 induction zs generalizing xs with
 |nil=>cases h;rfl
 |cons n ns b=>cases h with
  |cons h a=>rw[zR6,b a,h.int_inv]
end
section
variable {prog:Program}{w:World}{A:Around}{E:Value->Shared->Prop}{s:Shared}{it l:Addr}{items:Array Value}
end
section
variable {X:Cx}{α:Ev}{a e c:Expr}{p p0 pos pos2:Pos}{Q:List PyData->Prop}
theorem oQ {body rest:List Stmt}{E:yo}(B:PassesOwn (model X.prog X.w) X.A X.env X.xe)(P:Nat->Ev->Prop)(v:Nat)(h0:P v α)
  (y:∀n α,P n α->EvT X α c λb=>if b=true then SvS X α body {nx:=λd=>∃f,f<n/\P f d,ct:=λd=>∃f,f<n/\P f d,bk:=λd=>SvS X d rest E,rt:=E.rt}else SvS X α rest E):
  SvS X α (.While c body [] pos::rest) E:=λF σ H D m r=>by
 refine⟨_,zy (cx B xh zG) zG,?_⟩;refine⟨λn g H'=>∃d,M F d g H'/\P n d,⟨v,α,m,h0⟩,?_⟩;rintro n g H' ⟨d,x,z⟩;refine y n d z F g H' _ x λb H1 q t1 G=>?_;have m1:=x.kz G t1;cases b with
 |true=>
  rw[if_pos rfl]at q ⊢;refine⟨λi l=>∃f,f<n/\∃j,M F j i l/\P f j,λi l ⟨f,k,o⟩=>⟨f,k,o⟩,?_⟩;exact q F g H1 _ m1 ⟨λh σ2 t m2 s=>by obtain⟨f,k,o⟩:=s;exact⟨f,k,h,m2,o⟩,r.rt,λh σ2 t m2 C=>C F σ2 t D m2 r,λh σ2 t m2 u=>by obtain⟨f,k,o⟩:=u;exact⟨f,k,h,m2,o⟩⟩
 |false=>
  rw[if_neg (by decide)]at q ⊢;exact q F g H1 D m1 r
end
def mB (Q:PyData->Prop):List PyData->Prop
 |[]=>True
 |d::r=>Q d/\mB Q r
theorem mB.mem {Q:PyData->Prop}:∀{ds:List PyData},mB Q ds->∀d∈ds,Q d
 |[],_,d,h=>by cases h
 |x::r,h,d,hd=>by
  rcases zN6.mp hd with rfl|hd
  ·exact h.1
  ·exact mB.mem h.2 d hd
theorem ak {x:PyData}{ds:List PyData}{v:Int}{Q:PyData->Prop}(b:wg x=some ds)(h0:0<=v)(a:v<ds.length)(h:mB Q ds):∃ds i d,wg x=some ds/\PyData.int v=.int i/\atI ds i=some d/\Q d:=by
 obtain⟨d,hd,e⟩:=zn6 h0 a;exact⟨ds,v,d,b,rfl,e,h.mem d hd⟩
theorem dS {x:PyData}{ds:List PyData}{v:Int}{Q:PyData->Prop}(P:PyData->Prop)(b:wg x=some ds)(h0:0<=v)(a:v<ds.length)(h:mB P ds)(k:∀d,P d->Q d):∃ds i d,wg x=some ds/\PyData.int v=.int i/\atI ds i=some d/\Q d:=by
 obtain⟨d,hd,e⟩:=zn6 h0 a;exact⟨ds,v,d,b,rfl,e,k d (h.mem d hd)⟩
theorem wA {k:Bool}{p q:Prop}(a:k=true->p)(b:k=false->q):if k=true then p else q:=by
 cases k with
 |true=>exact a rfl
 |false=>exact b rfl
section
variable {X:Cx}{α:Ev}{e a b:Expr}{pos p:Pos}{E:yo}{rest:List Stmt}
end
def zF1 :R2:=λx y H R=>rEq x y H R\/zD7 x y H R
def zE0 :R2:=λx y H R=>rNe x y H R\/zF4 x y H R
theorem cL {X:Cx}(c:X.A.units+64<cLine):OpR X (compareOp .Eq) zF1:=λpins s σ H x y v u Q I a b h=>h.elim (λh=>cq _ _ _ _ _ _ _ _ _ I a b h) λh=>zr5 c _ _ _ _ _ _ _ _ _ I a b h
theorem zv6 {X:Cx}(c:X.A.units+64<cLine):OpR X (compareOp .NotEq) zE0:=λpins s σ H x y v u Q I a b h=>h.elim (λh=>zF3 _ _ _ _ _ _ _ _ _ I a b h) λh=>zu4 c _ _ _ _ _ _ _ _ _ I a b h
theorem aJ {i j:Str}:Cmp rNe (.str i) (.str j) (!decide (i=j)):=λp H c d R b a h=>by
 cases b.str_inv;cases a.str_inv;refine⟨rfl,?_⟩;rw[show decide (V.str i=V.str j)=decide (i=j) by simp];exact h
def qZ (x y:PyData)(Q:Bool->Prop):Prop:=∃k,Cmp zF1 x y k/\Cmp zE0 x y (!k)/\Q k
theorem zg4 {i j:Int}{Q:Bool->Prop}(h:Q (decide (i=j))):qZ (.int i) (.int j) Q:=⟨_,λp H c d R b a z=>.inl (jY p H c d R b a z),λp H c d R b a z=>.inl (aV p H c d R b a z),h⟩
theorem zf9 {i j:Str}{Q:Bool->Prop}(h:Q (decide (i=j))):qZ (.str i) (.str j) Q:=⟨_,λp H c d R b a z=>.inl (jX p H c d R b a z),λp H c d R b a z=>.inl (aJ p H c d R b a z),h⟩
theorem eqk {x y:PyData}{Q:Bool->Prop}(s1:SeqAt.shaped x=true)(s2:SeqAt.shaped y=true)(c:x.hasDict=false)(d:y.hasDict=false)(h:Q (PyData.eqv x y)):qZ x y Q:=
 ⟨_,λp H e f R b a z=>.inr ⟨x,y,(b.dv c).same wG,(a.dv d).same wG,s1,s2,z⟩,λp H e f R b a z=>.inr ⟨x,y,(b.dv c).same wG,(a.dv d).same wG,s1,s2,z⟩,h⟩
section
variable {X:Cx}{α:Ev}{a b:Expr}{pos:Pos}{Q:PyData->Prop}{T:Bool->Prop}
theorem zp8 (d:X.A.units+64<cLine)(h:EvD X α a λx=>EvD X α b λy=>qZ x y λk=>Q (.bool k)):EvD X α (.Compare a [.Eq] [b] pos) Q:=zx3 (cL d) (yJ _) (h.imp λx h=>h.imp λy c=>by obtain⟨k,e,_,q⟩:=c;exact⟨k,e,q⟩)
theorem zp7 (d:X.A.units+64<cLine)(h:EvD X α a λx=>EvD X α b λy=>qZ x y T):EvT X α (.Compare a [.Eq] [b] pos) T:=wO (cL d) (yJ _) (h.imp λx h=>h.imp λy c=>by obtain⟨k,e,_,q⟩:=c;exact⟨k,e,q⟩)
theorem zu5 (d:X.A.units+64<cLine)(h:EvD X α a λx=>EvD X α b λy=>qZ x y λk=>T (!k)):EvT X α (.Compare a [.NotEq] [b] pos) T:=wO (zv6 d) (yJ _) (h.imp λx h=>h.imp λy c=>by obtain⟨k,_,e,q⟩:=c;exact⟨!k,e,q⟩)
theorem zn2 {k:Bool}{p q:Prop}(e:k=true)(h:p):if k=true then p else q:=by rw[if_pos e];exact h
theorem zE8 {k:Bool}{p q:Prop}(e:k=false)(h:q):if k=true then p else q:=by rw[if_neg (by rw[e];decide)];exact h
variable {E:yo}{s t:List Stmt}
theorem tN {k:Bool}(e:k=true)(h:SvS X α s E):SvS X α (if k=true then s else t) E:=by rw[if_pos e];exact h
theorem wZ {k:Bool}(e:k=false)(h:SvS X α t E):SvS X α (if k=true then s else t) E:=by rw[if_neg (by rw[e];decide)];exact h
end
section
variable {X:Cx}{α:Ev}{a b:Expr}{pos:Pos}{Q:PyData->Prop}{T:Bool->Prop}
def zD2 :R2:=λx y H Q=>∃a v,x=.ref a/\fH H a y (some v)/\Q v H
theorem zg6 (f:X.A.units+1<cLine):IxR X zD2:=λvalue slice pins s σ H x y v u Q I d j h c=>by
 obtain⟨a,z,rfl,g,q⟩:=h;cases d;exact tail_any (mj I g) PySem.F.slot_dict_getitem.lookup (ir f I g j λk s' e i=>⟨z,H,e,i,q⟩) c
def fL (x y:PyData)(Q:PyData->Prop):Prop:=(∃ds i d,wg x=some ds/\y=.int i/\atI ds i=some d/\Q d)\/∃ds k d,x=zc4 ds/\y=ny k/\aY ds k=some d/\Q d
theorem ixk {x y:PyData}{ds:List PyData}{i:Int}{d:PyData}(c:wg x=some ds)(e:y=.int i)(f:atI ds i=some d)(h:Q d):fL x y Q:=.inl ⟨ds,i,d,c,e,f,h⟩
theorem pX {x:PyData}{ds:List PyData}{v:Int}(d:wg x=some ds)(h0:0<=v)(c:v<ds.length)(h:mB Q ds):fL x (.int v) Q:=.inl (ak d h0 c h)
theorem vW {x:PyData}{ds:List PyData}{v:Int}(P:PyData->Prop)(e:wg x=some ds)(h0:0<=v)(c:v<ds.length)(h:mB P ds)(k:∀d,P d->Q d):fL x (.int v) Q:=.inl (dS P e h0 c h k)
theorem we (t:X.A.units+1<cLine)(q:pq b)(h:EvD X α a λx=>EvD X α b λy=>fL x y Q):EvD X α (.Subscript a b pos) Q:=by
 refine sI (f:=tOp (λx y H Q=>rIx X.K x y H Q\/zD2 x y H Q)) (vA (zx5.or (zg6 t)) zf zf q) (λ_ _ _=>Iff.rfl) (h.imp λx h=>h.imp λy h=>?_);intro F σ H z w R m l p k;rcases h with⟨ds,i,d,e1,rfl,e,hq⟩|⟨ds,r,d,rfl,rfl,c,hq⟩
 ·cases p.int_inv;cases x with
  |list j=>
   cases e1;obtain⟨a,xs,rfl,g,n⟩:=l.lst_inv;obtain⟨v,c,av⟩:=n.atI e;exact .inl (.inl ⟨a,xs,i,v,rfl,rfl,SqL.of (zi g).2,c,k d v H hq m.tp Kz.refl av⟩)
  |tuple j=>
   cases e1;obtain⟨a,xs,rfl,g,n⟩:=l.tup_inv;obtain⟨v,c,av⟩:=n.atI e;exact .inl (.inr (.inl ⟨a,xs,i,v,rfl,rfl,SqT.of (zi g).2,c,k d v H hq m.tp Kz.refl av⟩))
  |_=>cases e1
 ·obtain⟨a,o,kvs,rfl,g1,g2⟩:=l.dk_inv;obtain⟨v,u,s⟩:=g2.get c;cases aQ p;exact .inr ⟨a,v,rfl,.inl ⟨kvs,r,.inr ⟨o,(zi g1).2⟩,rfl,u.symm⟩,k d v H hq m.tp Kz.refl s⟩
def zx8 (K:PySem.W.Frag)(neg:Bool):R2:=λx y H Q=>rIn K neg x y H Q\/∃a o,y=.ref a/\fH H a x o/\Q (.bl (if neg then !o.isSome else o.isSome)) H
theorem zt9 (f:X.A.units+1<cLine):OpR X (compareOp .In) (zx8 X.K false):=λpins s σ H x y v u Q I c d h=>by
 rcases h with h|⟨a,o,rfl,g,q⟩
 ·exact ip pins s σ H x y v u Q I c d h
 ·cases d;exact zK5 f I g c λs' e=>⟨.bl o.isSome,H,e,rfl,q⟩
def ze2 (X:Cx)(x y:PyData)(Q:Bool->Prop):Prop:=∃k,Cmp (zx8 X.K false) x y k/\Cmp (zx8 X.K true) x y (!k)/\Q k
theorem ink {x:PyData}{ds:List PyData}(f1:vq x=true)(f2:ds.all vq=true)(q:T (inD x ds)):ze2 X x (.list ds) T:=
 ⟨_,λp H e f R d c h=>.inl (bG (X:=X) (neg:=false) f1 f2 p H e f R d c h),λp H e f R d c h=>.inl (bG (X:=X) (neg:=true) f1 f2 p H e f R d c h),q⟩
theorem zK3 {x:PyData}{ds:List PyData}(f1:vq x=true)(f2:ds.all vq=true)(q:T (inD x ds)):ze2 X x (.tuple ds) T:=
 ⟨_,λp H e f R d c h=>.inl (jH (X:=X) (neg:=false) f1 f2 p H e f R d c h),λp H e f R d c h=>.inl (jH (X:=X) (neg:=true) f1 f2 p H e f R d c h),q⟩
theorem zo7 (d:X.A.units+1<cLine)(h:EvD X α a λx=>EvD X α b λy=>ze2 X x y T)(hm:behindInMarks .In b=false:=by rfl):EvT X α (.Compare a [.In] [b] pos) T:=
 wO (zt9 d) hm (h.imp λx h=>h.imp λy c=>by obtain⟨k,e,_,q⟩:=c;exact⟨k,e,q⟩)
end
theorem zN.one {k:Nat}{A:Around}(h:zN k A):A.units+1<cLine:=by have:=h.units;exact zJ1 this
section
variable {X:Cx}{α:Ev}{E:yo}{rest body:List Stmt}{e c tg iter:Expr}{pos p:Pos}
theorem yy (pat:Pat)(h:EvI X α tg iter λds=>wo X pat body rest E ds α)(f:X.N.Nodup:=by assumption)(d:PassesOwn (model X.prog X.w) X.A X.env X.xe:=by exact zY9)(b:X.calm=true:=by rfl)
  (hg:PG X tg (qh X.K pat):=by first|exact zD (by assumption) rfl (Or.inl rfl)|exact zD (by assumption) rfl (Or.inr rfl)|exact xI rfl rfl (by repeat (first|exact wb|refine yb (by first|exact zD (by assumption) rfl (Or.inl rfl)|exact zD (by assumption) rfl (Or.inr rfl)) ?_)))
  (a:∀x,foldedSetIterable iter X.env x=pure x:=by intro _;rfl):SvS X α (.For tg iter body [] pos::rest) E:=sE d b hg h a
def freeOk (xs:Scope)(y:Str×NameKind):Bool:=match y.2 with
 |.free=>match xs.names.lookup y.1 with
  |some .cell=>true
  |some .free=>true
  |_=>false
 |_=>true
theorem nV {xs scope:Scope}(h:scope.names.all (freeOk xs)=true):∀y∈scope.names,y.2=.free->xs.names.lookup y.1=some .cell\/xs.names.lookup y.1=some .free:=λy hy e=>by
 have:=z27.mp h y hy;unfold freeOk at this;rw[e]at this;cases z:xs.names.lookup y.1 with
 |none=>rw[z]at this;cases this
 |some k=>
  rw[z]at this;cases k<;>first|exact .inl rfl|exact .inr rfl|cases this
theorem sY (N:List Str)(imp:List (Option Nat))(pat:Pat){scope:Scope}{elt:Expr}{ifs:List Expr}{Q:List PyData->Prop}(h:EvI X α tg iter λds=>ds.length<=1000/\xf (λC s2 b fp=>X.comp N scope C s2 b fp) pat ifs elt (yF imp α) ds [] Q)
  (nd:N.Nodup:=by decide +kernel) (k:scope.kind=.function:=by rfl) (l:∀y∈scope.names,y.2≠.cell:=by decide +kernel) (g:∀y∈scope.names,y.2=.local->scope.names.lookup y.1=some .local:=by decide +kernel) (o:scope.names.all (freeOk X.env.scope)=true:=by rfl) (i:imp.length=N.length:=by rfl)
  (m:((imp.zip N).all λp=>match p.1 with|none=>true|some j=>X.N[j]? == some p.2&&scope.names.lookup p.2 == some .free)=true:=by rfl) (a:pat.free (yF imp α)=true:=by rfl)
  (hg:∀C s2 b fp,N.Nodup->PG (X.comp N scope C s2 b fp) tg (qh X.K pat):=by intro _ _ _ _ d;first|exact zD d rfl (Or.inl rfl)|exact xI rfl rfl (by repeat (first|exact wb|refine yb (zD d rfl (Or.inl rfl)) ?_)))
  (n:X.calm=true:=by rfl) (f:∀x,foldedSetIterable iter X.env x=pure x:=by intro _;rfl):EvL X α (.ListComp elt [⟨tg,iter,ifs,0⟩] scope pos) Q:=ef n ⟨k,nd,l,g,nV o,i,m⟩ a (λC s2 b fp=>hg C s2 b fp nd) h f
theorem kJ (i:Nat)(N:List Str)(imp:List (Option Nat))(pat:Pat){x:Str}{pos' a:Pos}{scope:Scope}{elt:Expr}{ifs:List Expr}(h:EvI X α tg iter λds=>ds.length<=1000/\xf (λC s2 d fp=>X.comp N scope C s2 d fp) pat ifs elt (yF imp α) ds [] λds=>SvS X (α.set i (some (.own ds))) rest E)
  (o:X.N.Nodup:=by assumption)
  (nd:N.Nodup:=by decide +kernel) (n:scope.kind=.function:=by rfl) (s:∀y∈scope.names,y.2≠.cell:=by decide +kernel) (l:∀y∈scope.names,y.2=.local->scope.names.lookup y.1=some .local:=by decide +kernel) (u:scope.names.all (freeOk X.env.scope)=true:=by rfl) (m:imp.length=N.length:=by rfl)
  (t:((imp.zip N).all λp=>match p.1 with|none=>true|some j=>X.N[j]? == some p.2&&scope.names.lookup p.2 == some .free)=true:=by rfl) (b:pat.free (yF imp α)=true:=by rfl)
  (hg:∀C s2 d fp,N.Nodup->PG (X.comp N scope C s2 d fp) tg (qh X.K pat):=by intro _ _ _ _ f;first|exact zD f rfl (Or.inl rfl)|exact xI rfl rfl (by repeat (first|exact wb|refine yb (zD f rfl (Or.inl rfl)) ?_)))
  (q:X.calm=true:=by rfl)
  (hi:X.N[i]?=some x:=by rfl) (r:Loc X.env.scope x:=by first|exact Or.inl rfl|exact Or.inr rfl) (g:swapsWith (.ListComp elt [⟨tg,iter,ifs,0⟩] scope a) (some (.Name x pos')) pos.line X.env=pure true:=by rfl)
  (hf:X.fn x=true\/X.env.scope.names.lookup x=some .local:=by first|exact .inl rfl|exact .inr rfl|assumption) (k:∀x,foldedSetIterable iter X.env x=pure x:=by intro _;rfl):
  SvS X α (.Assign [.Name x pos'] (.ListComp elt [⟨tg,iter,ifs,0⟩] scope a) pos::rest) E:=bS i o q ⟨n,nd,s,l,nV u,m,t⟩ b (λC s2 d fp=>hg C s2 d fp nd) h hi r g hf k
end
section
variable {Y:Addr->Shared->Hp->List Addr->Cx}{pat:Pat}{ifs:List Expr}{elt:Expr}{α0:Ev}{ι:Type}{g f:ι->PyData}{l:List ι}{acc:List PyData}{Q:List PyData->Prop}
theorem sS (p:ι->Bool)(f:ι->PyData)(h:∀x∈l,∃a,pat.bind (g x) α0=some a/\(∀C s2 b fp (Q:Bool->Prop),Q (p x)->iZ (Y C s2 b fp) a ifs Q)/\(p x=true->∀C s2 b fp (Q:PyData->Prop),Q (f x)->EvD (Y C s2 b fp) a elt Q))
  (hd:Q (acc++(l.filter p).map f)):xf Y pat ifs elt α0 (l.map g) acc Q:=by
 induction l generalizing acc with
 |nil=>
  show Q acc;simpa using hd
 |cons d ds i=>
  obtain⟨a,e,j,k⟩:=h d zO1;refine⟨a,e,λC s2 b fp=>j C s2 b fp _ ?_⟩;have c:=λacc=>i (acc:=acc) λd hd=>h d (zN7 _ hd);cases hp:p d with
  |true=>
   rw[if_pos rfl];refine λC s2 b fp=>k hp C s2 b fp _ (c _ ?_);simpa[z28,hp]using hd
  |false=>
   rw[if_neg (by decide)];refine c _ ?_;simpa[z28,hp]using hd
theorem xK (f:ι->PyData)(c:∀x∈l,∃a,pat.bind (g x) α0=some a/\∀C s2 d fp (Q:PyData->Prop),Q (f x)->EvD (Y C s2 d fp) a elt Q)(hd:Q (acc++l.map f)):xf Y pat [] elt α0 (l.map g) acc Q:=
 sS (λ_=>true) f (λx h=>by
  obtain⟨a,b,e⟩:=c x h;exact⟨a,b,λ_ _ _ _ _ k=>ku k,λ_=>e⟩) (by rw[z90.mpr λ_ _=>rfl];exact hd)
end
section
variable {co:Co}{N:Nat}
end
theorem qr (ds:List PyData){a:Int}(h:0<=a):cutD ds (some a) none=ds.drop a.toNat:=by
 obtain⟨n,rfl⟩:=zZ8 h;unfold cutD;rw[HT.ic,HT.oU,zS2];rcases Nat.le_total n ds.length with z|z
 ·rw[z39 z,z03 (by rw[zQ9];exact zN5 _)]
 ·rw[Nat.min_eq_right z,List.drop_eq_nil_of_le (zN5 _),List.drop_eq_nil_of_le z,List.take_nil]
theorem aO (ds:List PyData){a:Int}(h:0<=a):cutD ds none (some a)=ds.take a.toNat:=by
 obtain⟨n,rfl⟩:=zZ8 h;unfold cutD;rw[HT.ic,HT.oU,zS2,List.drop_zero,Nat.sub_zero];rcases Nat.le_total n ds.length with z|z
 ·rw[z39 z]
 ·rw[Nat.min_eq_right z,z03 (zN5 _),z03 z]
section
variable {co:Co}{N:Nat}
end
section
variable {X:Cx}{α:Ev}{a b e:Expr}{pos p:Pos}{Q:PyData->Prop}
end
section
variable {X:Cx}{α:Ev}{a b c e:Expr}{pos p:Pos}{Q:PyData->Prop}{T:Bool->Prop}
theorem cP {op d:CmpOp}{g g':Int->Int->Bool}(D:OpR X (compareOp op) (rI0 λi j=>.bl (g i j)))(l:OpR X (compareOp d) (rI0 λi j=>.bl (g' i j)))(hm:lastMarks [op,d] [b,c]=false)
  (h:EvD X α a λx=>EvD X α b λy=>∃i j,x=.int i/\y=.int j/\(if g i j=true then EvD X α c λz=>∃k,z=.int k/\T (g' j k)else T false)):EvT X α (.Compare a [op,d] [b,c] pos) T:=λF σ H R m k=>by
 refine⟨_,nB D l zf zf zf hm,?_⟩;refine h F σ H _ m λx K H1 v t1 o t=>?_;have m1:=m.kz o t1;refine v F σ H1 _ m1 λy I q A r n G=>?_;obtain⟨i,j,e1,u,hq⟩:=A;subst e1 u;cases t.int_inv;cases G.int_inv;have m2:=m1.kz n r;refine⟨i,j,rfl,rfl,_,rfl,?_⟩;cases hg:g i j with
 |true=>
  rw[hg]at hq;refine sQ ?_;refine(by simpa using hq:EvD X α c _) F σ q _ m2 λz J w E t3 B C=>?_;obtain⟨s,rfl,f⟩:=E;cases C.int_inv;exact⟨j,s,rfl,rfl,_,rfl,k _ w f t3 ((o.trans n).trans B)⟩
 |false=>
  rw[hg]at hq;exact rh ⟨_,rfl,k _ q (by simpa using hq) r (o.trans n)⟩
theorem bX (h:EvD X α a λx=>EvD X α b λy=>∃i j,x=.int i/\y=.int j/\(if decide (i<=j)=true then EvD X α c λz=>∃k,z=.int k/\T (decide (j<=k))else T false))(hm:lastMarks [.LtE,.LtE] [b,c]=false:=by rfl):EvT X α (.Compare a [.LtE,.LtE] [b,c] pos) T:=cP rq rq hm h
theorem fY (h:EvD X α a λx=>EvD X α b λy=>∃i j,x=.int i/\y=.int j/\(if decide (i<=j)=true then EvD X α c λz=>∃k,z=.int k/\Q (.bool (decide (j<=k)))else Q (.bool false)))(hm:lastMarks [.LtE,.LtE] [b,c]=false:=by rfl):EvD X α (.Compare a [.LtE,.LtE] [b,c] pos) Q:=fo rq rq hm h
end
section
variable {X:Cx}{α:Ev}{a b c e:Expr}{pos p p2 pos2:Pos}{Q:PyData->Prop}{T:Bool->Prop}
theorem uo {us:List Value}{ns:List Int}(h:IntsAre us ns):Vals (ns.map V.int) us:=by
 induction h with
 |nil=>exact .nil
 |cons n t _ d=>exact .cons ⟨t,rfl⟩ d
theorem pD :xl X (.builtin "sorted") (λxs H Q=>∃(l:Addr) (zs:List Int),xs=[.ref l]/\H l=some (.lst (zs.map V.int))/\zs.length<64/\∀(g:Addr) (ys:List Int),H g=none->ys.Perm zs->ys.Pairwise (·<=·)->Q (.ref g) (upd H g (.lst (ys.map V.int)))):=by
 intro pins s σ H xs us Q I r h;obtain⟨l,zs,rfl,n,d,q⟩:=h;obtain⟨u,rfl,m⟩:=vals1 r;cases m;obtain⟨its,i,pl,hz⟩:=I.list (SqL.of n);have l1:=i.length;rw[zN0]at l1;refine sorted_ints (vs:=its) pl.isList (intsAre_of i) (zP5 (zO9 l1.symm) d) λout f a1 a2 k=>?_;obtain⟨c,t⟩:=sortedAll_at s.heap its out;have j:s.heap.objs.size<=s.heap.objs.size+1:=zX8 _;refine⟨.ref (s.heap.objs.size+1),_,I.laid (o:=.lst (f.map V.int)) (t':=s.toks) (λb o e=>sortedAll_old e) j ⟨?_,out.toList,c,uo a1,by simpa using t⟩,rfl,q _ f (I.hok.fresh j) a2 k⟩;rw[zN0,a2.length_eq,zT1];exact kH d
theorem kg {Q:List PyData->Prop}(hg:Gl X "sorted")(hm:X.mg "sorted"=none)(h:EvD X α e λx=>∃zs:List Int,x=.list (zs.map .int)/\zs.length<64/\∀ys:List Int,ys.Perm zs->ys.Pairwise (·<=·)->Q (ys.map .int))(he:starEach [e] X.env=(false,eval e X.env)::starEach [] X.env:=by rfl):
  EvL X α (.Call (.Name "sorted" p) [e] [] pos) Q:=λF σ H R m k=>by
 refine⟨_,vX pD hg hm boot_sorted (zA zf yh he) (he:=he),?_⟩;refine h F σ H _ m λx u H1 o t1 g n=>?_;obtain⟨zs,rfl,f,q⟩:=o;have m1:=m.kz g t1;obtain⟨l,xs,rfl,j,s⟩:=n.lst_inv;have i:=(zi j).2;rw[s.intsV]at i;refine⟨l,zs,rfl,i,f,λt ys d pm pw=>?_⟩;have av:AVs (Gz F α σ H1) (ys.map V.int) (ys.map .int):=by
  clear pm pw
  induction ys with
  |nil=>exact .nil
  |cons y ys r=>exact .cons (.int y) r
 obtain⟨g1,g2,g3⟩:=m1.lay d av;exact k _ _ _ (q ys pm pw) g1 (g.trans g2) (g3.back m g t1)
end
section
variable {X:Cx}{α:Ev}{a b c d e:Expr}{pos p:Pos}{ta tb tc td:TE}{T:Bool->Prop}
end
theorem cI {X:Cx}{α:Ev}{e tg:Expr}{Q:List PyData->Prop}(h:EvD X α e λx=>∃ds,x=.tuple ds/\Q ds):EvI X α tg e Q:=λF σ H R m k=>by
 refine⟨_,zy7 zf,?_⟩;refine h F σ H _ m λx t H1 l t1 n j=>?_;obtain⟨ds,rfl,q⟩:=l;obtain⟨a,xs,rfl,b,f⟩:=j.tup_inv;refine⟨a,rfl,⟨xs,SqT.of (zi b).2⟩,k ds _ H1 q t1 n λi r p s=>⟨λd hd=>?_,λg=>?_⟩⟩
 ·obtain⟨x,c,av⟩:=f.get hd;have ha:=SqT.of (K:=X.K) (zi (s _ _ b)).2;refine⟨⟨xs,x,ha,c⟩,λu o y=>?_⟩;obtain⟨e,y⟩:=y;subst e;have:=y xs ha;rw[c]at this;cases this;exact⟨zt.refl _,λ_=>av.same s⟩
 ·exact⟨xs,SqT.of (zi (s _ _ b)).2,by rw[f.length];exact g⟩
theorem zp0 (ns zs:List Int):∃ms,uz ns zs ms:=by
 refine⟨ns.mergeSort λm k=>!lx (keyOf zs k) (keyOf zs m),List.mergeSort_perm ..,?_⟩;have h:=List.pairwise_mergeSort (le:=λm k=>!lx (keyOf zs k) (keyOf zs m)) (λa b c d e=>?_) (λa b=>?_) ns
 ·exact h.imp λ{a b} h=>by simpa using h
 ·simp only[Bool.not_eq_true']at d e ⊢;unfold lx at *;simp only[zX3]at *
  lia
 ·unfold lx;simp only[z38,Bool.not_eq_true',zX3]
  lia
theorem zl4 (zs:List Int){many:Nat}(free:Nat)(h:0<many):∀i,i<=zs.length->∃bs,vo zs many free i bs
 |0,_=>⟨_,qv zs free⟩
 |i+1,hi=>by
  obtain⟨bs,m⟩:=zl4 zs free h i (zO0 (zP2 _ _) hi);by_cases a:i % many+1<many
  ·exact⟨bs,qJ h a m⟩
  ·have a:i % many+1=many:=by have:=Nat.mod_lt i h;exact zW4 this (zV2 a)
   obtain⟨k,l,f⟩:=sk h a;obtain⟨ms,s⟩:=zp0 (zp ((i / many*many:Nat):Int) many) zs;have nd:ms.Nodup:=s.1.nodup_iff.mpr (uL _ _);have d:ms.length=many:=by rw[s.1.length_eq,zb]
   have ds:i / many*many+many=i+1:=by rw[<-f,z70,Nat.one_mul]
   have key:∀j,j<zs.length->((List.range zs.length).map λ(j:Nat)=>if(j:Int)∈ms then decide (ms.idxOf (j:Int)<free)else bs.getD j false).getD j false=if(j:Int)∈ms then decide (ms.idxOf (j:Int)<free)else bs.getD j false:=λj c=>by
    rw[zN3,zO8,List.getElem?_range c];rfl
   refine⟨(List.range zs.length).map λ(j:Nat)=>if(j:Int)∈ms then decide (ms.idxOf (j:Int)<free)else bs.getD j false,qI h a m s (by simp[m.1]) (λq hq=>?_) λj c=>?_⟩
   ·have b:=xU s hq;have g:ms.getD q 0=ms[q]:=by rw[zN3,zN2 (zN4 hq (zO9 d.symm))];rfl
    have e:(((ms.getD q 0).toNat:Nat):Int)=ms[q]:=by rw[<-g];lia
    rw[key _ (by lia),e,if_pos (zS7 _),nd.idxOf_getElem]
   ·by_cases hz:j<zs.length
    ·rw[key j hz,if_neg λz=>?_];obtain⟨q,hq,e⟩:=zT8.mp z;refine c q (zN4 hq (zO9 d)) ?_;rw[zN3,zN2 hq];show(ms[q]).toNat=j
     lia
    ·rw[zN3,zN3,zV6 (by simp;exact zV2 hz),zV6 (by rw[m.1];exact zV2 hz)]
theorem zt4 {d:PyData}(hd:pN d)(zs:List Int):∃bs,yL d zs bs:=by
 rcases hd with rfl|⟨many,free,rfl,f0,a,_⟩
 ·exact⟨_,.inl ⟨rfl,rfl⟩⟩
 ·obtain⟨bs,m⟩:=zl4 zs free (many:=many) (zP5 (zO5 _) a) zs.length (zN5 _);exact⟨bs,.inr ⟨many,free,rfl,m⟩⟩
section
variable {X:Cx}{α:Ev}{a b c d e:Expr}{pos p:Pos}{T:Bool->Prop}
end
abbrev jt (X:Cx)(P:Program)(w:World)(K:PySem.W.Frag)(mg:Str->Option Value)(base:Heap):Prop:=X.prog=P/\X.w=w/\X.K=K/\X.mg=mg/\X.base=base
section
variable {X:Cx}{α:Ev}{e o:Expr}{es:List Expr}{pos p apos:Pos}{Q:PyData->Prop}{k:Nat}{φ:List A->(A->Prop)->Prop}{x m:Str}{C:Addr}{pl:Sem Bool}{P:Program}{w:World}{K:PySem.W.Frag}{mg:Str->Option Value}{base:Heap}
theorem zc6 (D:Cal P w K mg base x k φ)(c:jt X P w K mg base)(hr:zN k X.A)(hg:Gl X x)(h:EvA X α (e::es) λas=>φ as λa=>Q a.d)
  (b:(x == ("__debug__":Str))=false:=by decide) (he:starEach (e::es) X.env=(false,eval e X.env)::starEach es X.env:=by rfl) (hpl:(backTo pos (starEach es X.env)).any (·.1)=false:=by rfl):EvD X α (.Call (.Name x p) (e::es) [] pos) Q:=by
 obtain⟨rfl,rfl,rfl,rfl,rfl⟩:=c;exact xC D hr hg h b he hpl
theorem bR (D:uI P w K mg base x k [] φ)(c:jt X P w K mg base)(hr:zN (k+1) X.A)(hg:Gl X x)(h:EvA X α (e::es) λas=>φ as λa=>Q a.d)
  (b:(x == ("__debug__":Str))=false:=by decide) (he:starEach (e::es) X.env=(false,eval e X.env)::starEach es X.env:=by rfl) (hpl:(backTo pos (starEach es X.env)).any (·.1)=false:=by rfl):EvN X α (.Call (.Name x p) (e::es) [] pos) Q:=by
 obtain⟨rfl,rfl,rfl,rfl,rfl⟩:=c;exact zb1 D hr hg h b he hpl
theorem eM (D:xt P w K mg base C m k φ)(g:jt X P w K mg base)(hr:zN k X.A)(h:EvD X α o λx=>∃fs,x=wC C fs/\sh fs m=none/\EvA X α (e::es) λas=>φ (.dat (wC C fs)::as) λa=>Q a.d)
  (b:starEach (e::es) X.env=(false,eval e X.env)::starEach es X.env:=by rfl) (hpl:(backTo pos (starEach es X.env)).any (·.1)=false:=by rfl)
  (c:eval (.Call (.Attribute o m apos) (e::es) [] pos) X.env=(do
   let ov <-eval o X.env
   standAt apos.atName
   let(f,first) <-holding [ov] (getMethod ov m pl)
   callWith pos f first (backTo pos (starEach (e::es) X.env)) (backToKw pos (keywordEach [] X.env))):=by rfl):EvD X α (.Call (.Attribute o m apos) (e::es) [] pos) Q:=by
 obtain⟨rfl,rfl,rfl,rfl,rfl⟩:=g;exact vf D hr h b hpl c
theorem gk (D:xt P w K mg base C m k φ)(c:jt X P w K mg base)(hr:zN k X.A)(h:EvD X α o λx=>∃fs,x=wC C fs/\sh fs m=none/\φ [.dat (wC C fs)] λa=>Q a.d)
  (b:eval (.Call (.Attribute o m apos) [] [] pos) X.env=(do
   let ov <-eval o X.env
   standAt apos.atName
   let(f,first) <-holding [ov] (getMethod ov m pl)
   callWith pos f first (backTo pos (starEach [] X.env)) (backToKw pos (keywordEach [] X.env))):=by rfl):EvD X α (.Call (.Attribute o m apos) [] [] pos) Q:=by
 obtain⟨rfl,rfl,rfl,rfl,rfl⟩:=c;exact rp D hr h b
end
section
variable {X:Cx}{α:Ev}{pos:Pos}{Q:PyData->Prop}
end
section
variable {X:Cx}{α:Ev}{e ix:Expr}{pos:Pos}{rest:List Stmt}{E:yo}
end
section
variable {X:Cx}{tg:Expr}
variable {α:Ev}{a b c:Expr}{p pos:Pos}
end
section
variable {prog:Program}{w:World}{K:Type}[DecidableEq K](knd:KeyKind prog w K)
variable {knd}
end
section
variable {X:Cx}
end
section
variable {X:Cx}{α:Ev}{e a b:Expr}{p pos:Pos}{Q:PyData->Prop}
end
section
variable {M:Model}{A:Around}{E:Value->Shared->Prop}{s:Shared}
end
section
variable {P:Program}{w:World}{H H0:Hp}{h h' h0:Heap}{fs fs' ts:List Addr}{e:Addr}
end
section
variable {X:Cx}{pins:List (Addr×Obj)}{σ:St}{H H':Hp}{s s':Shared}{a:Addr}
end
section
variable {X:Cx}{E':Value->Shared->Prop}
end
section
variable {P:Program}{w:World}{K:PySem.W.Frag}{mg:Str->Option Value}{base:Heap}
end
section
variable {prog:Program}{w:World}{A:Around}{E:Value->Shared->Prop}{h:Heap}{g:Array GenState}{d:Drawn}{t:Nat}{os:OsState}
variable {nm q:Str}{C N:Addr}{bs bm bmB:List Value}{hdct:Bool}{sn:List Str}{sub:List Value}{ab:Bool}{col:Option Bool}{dd:Option Addr}{k0 k1 k2 k3 k5:Option Value}{B Bn newId nid initId inN:String}{bmN:List Value}
end
open Builtin Builtin.ObjectAttr
section
variable {prog:Program}{w:World}{A:Around}{E:Value->Shared->Prop}{h:Heap}{g:Array GenState}{d:Drawn}{t:Nat}{os:OsState}{K:Frag}{C S e t0:Addr}{dx:Option Addr}{init:Option Value}
end
section
variable {prog:Program}{w:World}{A:Around}{E:Value->Shared->Prop}{h:Heap}{g:Array GenState}{d:Drawn}{t:Nat}{os:OsState}{K:Frag}{C S e t0:Addr}{init:Option Value}
end
section
variable {X:Cx}{pins:List (Addr×Obj)}{σ:St}{H:Hp}{s:Shared}{a C:Addr}{d:Option Addr}{pos:Pos}
end
section
variable {prog:Program}{w:World}{A:Around}{E:Value->Shared->Prop}{h:Heap}{g:Array GenState}{d:Drawn}{t:Nat}{os:OsState}
variable {nm q:Str}{C N:Addr}{bs bm bmB:List Value}{hdct:Bool}{sn:List Str}{sub:List Value}{ab:Bool}{col:Option Bool}{dd:Option Addr}{k0 k1 k2 k3 k5:Option Value}{B Bn newId nid initId inN:String}{bmN:List Value}
end
section
variable {X:Cx}{pins:List (Addr×Obj)}{σ:St}{H:Hp}{s:Shared}{k:Nat}{f C S:Addr}{fd:FuncData}{ps:List Str}{sp:Sp}{x:Str}{p pos:Pos}{e:Expr}{es:List Expr}{t:TA}
end
section
variable {X:Cx}{pins:List (Addr×Obj)}{σ:St}{H:Hp}{s:Shared}{a:Addr}{D:Ends}{f:Flow}
end
section
variable {X:Cx}{body suite:List Stmt}{b0:Stmt}{x n:Str}{np hpos pos:Pos}{B:Addr}
end
section
variable {G:Hp}{v:V}{C:Addr}{ds:List (PyData×PyData)}
end
section
variable {F:Fr}{α αh:Ev}{σ:St}{H:Hp}
end
section
variable {F:Fr}{α αh:Ev}{σ:St}{H:Hp}
end
section
variable {P:Program}{w:World}{K:PySem.W.Frag}{mg:Str->Option Value}{base:Heap}
end
section
variable {X:Cx}{α αh:Ev}{r:Fr}{q q0:PyData->Prop}{j k:Nat}{x fl:Str}{C:Addr}{e:Expr}{es:List Expr}{p pos pos':Pos}{rest:List Stmt}{E:yo}
variable {φ:List A->(A->Prop)->(PyData->Prop)->Prop}{Q:PyData->Prop}
end
section
variable {P:Program}{w:World}{K:PySem.W.Frag}{mg:Str->Option Value}{base:Heap}
end
section
variable {X:Cx}{α αh:Ev}{q:PyData->Prop}{i j:Nat}{x n:Str}{B:Addr}{body suite rest:List Stmt}{b0:Stmt}{np hpos pos:Pos}{E:yo}
end
section
variable {X:Cx}{α:Ev}{p p1 pos:Pos}{a:Expr}{Q:PyData->Prop}{C S:Addr}{init:Option Value}
end
section
variable {X:Cx}{α:Ev}{pos:Pos}{o:Expr}{f:Str}{Q:PyData->Prop}{C S:Addr}{init:Option Value}
end
section
variable {P:Program}{w:World}{K:PySem.W.Frag}{mg:Str->Option Value}{base:Heap}
end
section
variable {X:Cx}{α αh:Ev}{r:Fr}{q q0:PyData->Prop}{j k:Nat}{x fl:Str}{C:Addr}{e:Expr}{es:List Expr}{p pos pos':Pos}{rest:List Stmt}{E:yo}
end
section
variable {P:Program}{w:World}{K:PySem.W.Frag}{mg:Str->Option Value}{base:Heap}
end
section
variable {P:Program}{w:World}{K:PySem.W.Frag}{mg:Str->Option Value}{base:Heap}
end
section
variable {X:Cx}{α αh:Ev}{r:Fr}{q q0:PyData->Prop}{j k:Nat}{x fl:Str}{C:Addr}{e:Expr}{es:List Expr}{p pos pos':Pos}{rest:List Stmt}{E:yo}{Q:PyData->Prop}{φ:List A->(PyData->Prop)->Prop}
end
def zC1 :Option A->Option A
 |some .tape=>none
 |some (.exc _ _)=>none
 |a=>a
def yU (α:Ev):Ev:=α.map zC1
def cW :A->Prop
 |.tape=>False
 |.exc _ _=>False
 |_=>True
theorem xk {α:Ev}{i:Nat}{a:A}(h:(yU α)[i]?=some (some a)):α[i]?=some (some a)/\cW a:=by
 unfold yU at h;rw[zO8,zQ0]at h;obtain⟨b,d,c⟩:=h;cases b with
 |none=>cases c
 |some b=>cases b<;>cases c<;>exact⟨d,trivial⟩
theorem xB.to {G p:Hp}{F F':Fr}{H H':Hp}{s:Option V}{a:A}(n:cW a)(h:xB G F H s a)(g:zt G p)(hf:∀x o,foot s a x->H x=some o->H' x=some o/\¬F'.O0 x/\F'.H0 x=none):xB p F' H' s a:=by
 cases a with
 |dat d=>obtain⟨v,b,f⟩:=h;exact⟨v,b,f.same g⟩
 |ow c=>
  obtain⟨l,o,b,f,i,t,u⟩:=h;obtain⟨j,m,z3⟩:=hf l o b f;exact⟨l,o,b,j,i.same g,m,z3⟩
 |deep d S=>
  obtain⟨v,b,f,i⟩:=h;refine⟨v,b,f.same (uQ g λx o z e=>(hf x o z e).1),λx z=>?_⟩;obtain⟨_,_,xs,e⟩:=i x z;obtain⟨j,m,z3⟩:=hf x _ z e;exact⟨m,z3,xs,j⟩
 |tape=>exact n.elim
 |«at» l=>exact h
 |exc r q=>exact n.elim
 |pin l vs ds=>exact⟨h.1,g _ _ h.2.1,h.2.2.same g⟩
 |nst l ls dss=>
  obtain⟨b,f,i,t,u⟩:=h;refine⟨b,(hf l _ zO1 f).1,i.same g λa ha o e=>(hf a o (zN7 _ ha) e).1,t,λx k=>?_⟩;rcases zN6.mp k with z|z
  ·exact(hf x _ k (z▸f)).2
  ·obtain⟨xs,e⟩:=i.obj x z;exact(hf x _ k e).2
def Tp (F:Fr)(x:Addr):Prop:=∃t b c,F.tp=some (t,b,c)/\(x=t\/x=b\/x=c)
noncomputable instance tpDec (F:Fr)(x:Addr):Decidable (Tp F x):=Classical.propDecidable _
noncomputable def Fr.row (F:Fr)(H:Hp)(l:Addr):Fr:=⟨λx=>if Tp F x then H x else F.H0 x,λx=>F.O0 x\/x=l,some (l,l,l)⟩
section
variable {F:Fr}{α α':Ev}{σ σ':St}{H H':Hp}{l:Addr}
theorem Tp.own (t:zE F H){x:Addr}(h:Tp F x):F.O0 x:=by
 obtain⟨a,b,c,e,z⟩:=h;obtain⟨_,d,f,g⟩:=t a b c e;rcases z with z|z|z
 ·rw[z];exact d
 ·rw[z];exact f
 ·rw[z];exact g
theorem Tp.lst (t:zE F H){x:Addr}(h:Tp F x):∃xs,H x=some (.lst xs):=by
 obtain⟨a,b,c,e,z⟩:=h;obtain⟨n,bs,cs,n1,e1,d,f,_⟩:=(t a b c e).1.ex;rcases z with z|z|z
 ·rw[z];exact⟨_,e1⟩
 ·rw[z];exact⟨_,d⟩
 ·rw[z];exact⟨_,f⟩
theorem Tp.noTab (t:zE F H){x:Addr}(h:Tp F x):¬tD x:=λz=>by
 obtain⟨o,e,_,n⟩:=tS t.tab z;obtain⟨xs,a⟩:=Tp.lst t h;rw[e]at a;cases a;exact n _ rfl
theorem nL (t:zE F H){x:Addr}(h:(F.row H l).H0 x=none):F.H0 x=none:=by
 have h':(if Tp F x then H x else F.H0 x)=none:=h;split at h'
 ·rename_i q;obtain⟨xs,e⟩:=Tp.lst t q;rw[e]at h';cases h'
 ·exact h'
theorem M.row {i:Nat}{x y:Int}(m:M F α σ H)(hi:α[i]?=some (some (.own [.int x,.int y])))(h0:0<=y)(G:y<4294967296):∃l,F.H0 l=none/\¬F.O0 l/\M (F.row H l) ((yU α).set i (some .tape)) σ H:=by
 obtain⟨l,xs,e1,p,E,I,L⟩:=m.own i _ hi;have ex:xs=[.int x,.int y]:=by
  cases E with
  |cons a r=>
   cases r with
   |cons b r=>
    cases r;rw[a.int_inv,b.int_inv]
 subst ex;have old:∀{j:Nat} {a:A},((yU α).set i (some .tape))[j]?=some (some a)->(i=j/\a=.tape)\/(i≠j/\α[j]?=some (some a)/\cW a):=λ{j a} e=>by
  rcases zR e with⟨z,w⟩|⟨z,w⟩
  ·cases w;exact .inl ⟨z,rfl⟩
  ·obtain⟨k,g⟩:=xk w;exact .inr ⟨z,k,g⟩
 have ow:∀{z:Addr},Ow (F.row H l) ((yU α).set i (some .tape)) σ z->Ow F α σ z:=λ{z} h=>by
  rcases h with(h|h)|⟨j,a,s,k,g,C⟩
  ·exact .inl h
  ·rw[h];exact .inr ⟨i,_,_,hi,e1,rfl⟩
  ·rcases old k with⟨_,q⟩|⟨_,q,_⟩
   ·subst q;exact C.elim
   ·exact .inr ⟨j,a,s,q,g,C⟩
 have J:zt (Gz F α σ H) (Gz (F.row H l) ((yU α).set i (some .tape)) σ H):=zr λa o h e=>⟨λz=>h (ow z),e⟩;refine⟨l,L,I,?_,λj a s v d=>?_,λj D a b s t z v d K N f1 f2=>?_,λj r q e=>?_,⟨m.tp.tab,λx h=>.inl (m.tp.ot x h),λt b c e=>?_⟩,λz o e n=>?_,λz hz=>?_⟩
 ·rw[zS5];unfold yU;rw[zN0];exact m.len
 ·rcases old v with⟨z,q⟩|⟨O,q,u⟩
  ·subst z q;rw[e1]at d;cases d;exact⟨l,l,l,rfl,rfl⟩
  ·refine(m.ok j a s q d).to u J λx o f e=>?_;obtain⟨g1,g2,_⟩:=m.ft q d f;refine⟨e,λz=>z.elim g1 λz=>O (m.dj i j _ _ _ _ x hi q e1 d (by rw[z];exact rfl) f),?_⟩;show(if Tp F x then H x else F.H0 x)=none;rw[if_neg λz=>g1 (Tp.own m.tp z)];exact g2
 ·rcases old v with⟨_,q⟩|⟨_,k,_⟩
  ·subst q;exact f1.elim
  ·rcases old d with⟨_,q⟩|⟨_,g,_⟩
   ·subst q;exact f2.elim
   ·exact m.dj j D a b s t z k g K N f1 f2
 ·rcases old e with⟨_,q⟩|⟨_,_,u⟩
  ·cases q
  ·exact u.elim
 ·cases e;exact⟨⟨0,[x,y],[x,y],⟨rfl,rfl⟩,p,p,p,⟨x,y,rfl,h0,G⟩,rfl⟩,.inr rfl,.inr rfl,.inr rfl⟩
 ·have B:(if Tp F z then H z else F.H0 z)=some o:=e;split at B
  ·exact B
  ·rename_i q;exact m.keep z o B ⟨λt b c w=>⟨λy=>q ⟨t,b,c,w,.inl y⟩,λy=>q ⟨t,b,c,w,.inr (.inl y)⟩⟩,n.2⟩
 ·rcases hz with z|z
  ·exact m.oex _ z
  ·exact⟨_,by rw[z];exact p,xO⟩
theorem zE.unrow (t:zE F H)(h:¬F.O0 l)(m:TabAt H')(k:Kz (F.row H l) (F.row H l).H0 H'):zE F H':=⟨m,t.ot,λa b c e=>by
 obtain⟨i,j,f,n⟩:=t a b c e;refine⟨i.off λz hz=>?_,j,f,n⟩;have tz:Tp F z:=⟨a,b,c,e,hz⟩;have g:F.O0 z:=Tp.own t tz;have nl:z≠l:=λq=>h (by rw[<-q];exact g);obtain⟨xs,d⟩:=Tp.lst t tz;rw[d];refine k z _ ?_ ⟨λt' o c' w=>by cases w;exact⟨nl,nl⟩,Tp.noTab t tz⟩;show(if Tp F z then H z else F.H0 z)=some _;rw[if_pos tz];exact d⟩
theorem Kz.unrow (m:M F α σ H)(h0:F.H0 l=none)(k:Kz (F.row H l) (F.row H l).H0 H'):Kz F F.H0 H':=λx o e n=>by
 have nl:x≠l:=λq=>by rw[q,h0]at e;cases e
 refine k x o ?_ ⟨λt' a c' w=>by cases w;exact⟨nl,nl⟩,n.2⟩;show(if Tp F x then H x else F.H0 x)=some o;split
 ·exact m.keep x o e n
 ·exact e
theorem M.unrow (m:M F α σ H)(h0:F.H0 l=none)(v:¬F.O0 l)(c:M (F.row H l) α' σ' H'):M F (yU α') σ' H':=by
 have ow:∀{z:Addr},Ow F (yU α') σ' z->Ow (F.row H l) α' σ' z:=λ{z} h=>by
  rcases h with h|⟨j,a,s,g,u,w⟩
  ·exact .inl (.inl h)
  ·exact .inr ⟨j,a,s,(xk g).1,u,w⟩
 have p:zt (Gz (F.row H l) α' σ' H') (Gz F (yU α') σ' H'):=zr λa o h e=>⟨λz=>h (ow z),e⟩;refine⟨?_,λj a s i d=>?_,λj n a b s t z i d=>c.dj j n a b s t z (xk i).1 (xk d).1,λj r q e=>?_,m.tp.unrow v c.tp.tab c.keep,Kz.unrow m h0 c.keep,λz hz=>c.oex z (.inl hz)⟩
 ·unfold yU;rw[zN0];exact c.len
 ·obtain⟨g,k⟩:=xk i;refine(c.ok j a s g d).to k p λx o f e=>?_;obtain⟨g1,g2,_⟩:=c.ft g d f;exact⟨e,λz=>g1 (.inl z),nL m.tp g2⟩
 ·exact(xk e).2.elim
theorem wy.unrow {v:V}{a:A}(m:M F α σ H)(h0:F.H0 l=none)(b:¬F.O0 l)(r:wy (F.row H l) v H' a):wy F v H' a:=by
 obtain⟨t,k,r⟩:=r;exact⟨m.tp.unrow b t.tab k,Kz.unrow m h0 k,r.to (λ_ z=>.inl z) λx z=>nL m.tp z⟩
end
section
variable {X:Cx}{α:Ev}{E:yo}{sts rest body:List Stmt}{tg iter:Expr}{pos:Pos}
theorem zw9 (i:Nat){x y:Int}(hi:α[i]?=some (some (.own [.int x,.int y])))(h0:0<=y)(g:y<4294967296)
  (h:SvS X ((yU α).set i (some .tape)) sts {nx:=λb=>E.nx (yU b),rt:=E.rt,bk:=λb=>E.bk (yU b),ct:=λb=>E.ct (yU b)}):SvS X α sts E:=λF σ H D m r=>by
 obtain⟨l,f,e,j⟩:=m.row hi h0 g;refine h _ σ H D j ⟨λb d H' c q=>r.nx _ _ _ (m.unrow f e c) q,λa v H' z q=>r.rt a v H' (z.unrow m f e) q,λb d H' c q=>r.bk _ _ _ (m.unrow f e c) q,λb d H' c q=>r.ct _ _ _ (m.unrow f e c) q⟩
theorem zq0 {pat:Pat}{F:Fr}{σ:St}{H:Hp}{D:Ends}(P:PassesOwn (model X.prog X.w) X.A X.env X.xe)(O:X.calm=true)(hg:PG X tg (qh X.K pat))(m:M F α σ H)(r:qg F E D)
  (h:∀R:It->Hp->Prop,(∀ds J H',wo X pat body rest E ds α->zE F H'->Kz F H H'->ItW (λx=>¬Ow F α σ x) J ds (Gz F α σ H')->R J H')->za7 X tg iter σ H R)
  (C:∀x,foldedSetIterable iter X.env x=pure x):dE X (.For tg iter body [] pos::rest) D σ H:=by
 refine⟨_,zy (cA P O tQ hg zG C) zG,?_⟩;refine h _ λds J H1 N t1 W z=>?_;have m1:=m.kz W t1;have Q:=m1.up;have t:qg (F.up (Gz F α σ H1)) E D:=r.up;refine⟨λi n g H'=>n=ds.length-i/\i<=ds.length/\∃b,M (F.up (Gz F α σ H1)) b g H'/\wo X pat body rest E (ds.drop i) b,⟨ds.length,by simp,zO5 _,α,Q,N⟩,?_⟩;rintro i n g H' ⟨rfl,hi,b,l,lw⟩;obtain⟨U,I⟩:=z i H' _ (m1.upold l);by_cases c:i<ds.length
 ·have hd:ds[i]?=some ds[i]:=zN2 c;rw[zR8 c]at lw;obtain⟨S,G,body⟩:=lw;obtain⟨go,V⟩:=U _ hd;refine .inr ⟨go,λf j=>∃b,M (F.up (Gz F α σ H1)) b f j/\wo X pat _ rest E (ds.drop (i+1)) b,λf j ⟨k,L,T⟩=>⟨ds.length-(i+1),(om0 c),rfl,c,k,L,T⟩,λx B y=>?_⟩;obtain⟨p,s⟩:=V x B y;have m3:=l.kz (Kz.of_same p) (l.tp.same p);refine tZ G m3 (s λa o _ e=>l.fresh e) λu m4=>?_;exact body _ u B _ m4 ⟨λd σ2 v m2 q=>⟨d,m2,q⟩,t.rt,λd σ2 v m2 q=>q _ σ2 v D m2 t,λd σ2 v m2 q=>⟨d,m2,q⟩⟩
 ·have e:i=ds.length:=(zW4 hi (zV2 c));subst e;rw[z01]at lw;exact .inl ⟨I (zN5 _),lw _ g H' D l t⟩
end
section
variable {P:Program}{w:World}{K:PySem.W.Frag}{mg:Str->Option Value}{base:Heap}
def fr0 (H:Hp):Fr:=⟨H,tD,none⟩
theorem M.zero {H:Hp}{σ:St}{n:Nat}(d:TabAt H)(g:n=σ.length):M (fr0 H) (List.replicate n none) σ H:=by
 have no:∀(i:Nat) a,(List.replicate n (none:Option A))[i]?≠some (some a):=λi a z=>by
  rw[zV9]at z;split at z<;>cases z
 exact⟨by rw[List.length_replicate];exact g,λi a s e=>absurd e (no i _),λi j a b s t l e=>absurd e (no i _),λi r q e=>absurd e (no i _),⟨d,λ_ h=>h,λt b c e=>by (cases e)⟩,λ_ _ e _=>e,λx k=>by
  obtain⟨o,f,hn,_⟩:=tS d k;exact⟨o,f,hn⟩⟩
theorem SqL.same {H H':Hp}{a:Addr}{xs:List V}(h:SqL K H a xs)(s:zt H H'):SqL K H' a xs:=by
 rcases h with(h|⟨o,h⟩)|h
 ·exact .inl (.inl (s _ _ h))
 ·exact .inl (.inr ⟨o,s _ _ h⟩)
 ·exact .inr h
theorem zJ4 {st:Stmt}{f:Addr}{fd:FuncData}{l:List Str}{k:Nat}{x:Str}{pt:Pos}{X p1 p2 p3 p4 p5 p6 p7:Pos}{T n1:Nat}{B:Int}{body rest:List Stmt}{j:Nat}(G:Fun K "law" "law" st f fd)(S:zW ("_law_script"::l) ["_law_script"] (zg st))
  (hb:zv st=.For (.Name x pt) (.BinOp (.List [.Constant (.int 0) T X] p1) .Add (.Subscript (.Name "_law_script" p2) (.Slice none (some (.Constant (.int B) n1 p3)) none p4) p5) p6) body [] p7::rest)
  (N:Vis (zg st) "_law_script") (Y:(("_law_script":Str)::l)[j]?=some x) (o:Loc (zg st) x)
  (n:∀(cdv:Value) (t:Around) (outer:List Env) (s:Shared) (H:Hp) (E:XK) (zs:List Int),zN k (t.deeper (envOfC "law" (zg st) s.heap.objs.size f cdv))->zs.length<=64->
   wo (wx CX0 P w K mg base ("_law_script"::l) "law" (zg st) f cdv t outer s H E).nox (.one j) body rest {nx:=λ_=>False,rt:=λa=>a=.dat (.bool true)} (zs.map .int) (List.replicate (l.length+1) none)):
  yK P w K mg base CX0 (k+1) f fd ["_law_script"] (ml K):=by
 refine G.ok S (λvs H Q E h=>?_) (λcdv t outer s H vs Qc E hr h=>?_)
 ·obtain⟨a,ns,rfl,_⟩:=h;rfl
 ·obtain⟨a,ns,rfl,U,hn,C,kq⟩:=h;rw[hb];have D:M (fr0 H) (List.replicate (l.length+1) none) (L2.start ("_law_script"::l) [.ref a]) H:=M.zero C (by unfold L2.start;simp);have q:∀{l3:Addr},¬tD l3->¬Ow (fr0 H) (List.replicate (l.length+1) none) (L2.start ("_law_script"::l) [.ref a]) l3:=λ{l3} hn=>by
   rintro(z|⟨i,ds,s,e1,e2,_⟩)
   ·exact hn z
   ·rw[zV9]at e1;split at e1<;>cases e1
  refine zq0 (E:={nx:=λ_=>False,rt:=λa=>a=.dat (.bool true)}) (pat:=.one j) zY9 rfl (zD (i:=j) S.nd Y o) D ⟨λ_ _ _ _ z=>z.elim,λz v H' r e=>?_,λ_ _ _ _ z=>z.elim,λ_ _ _ _ z=>z.elim⟩ (λR hR=>?_) (λ_=>rfl)
  ·cases e;obtain⟨_,_,r⟩:=r;rw[AV.bl_inv r];exact kq H'
  ·refine⟨_,jS (yW bE (cE (zA yc yh)) (sX jz (yw (i:=0) rfl N) jW (jL yc))),?_⟩;obtain⟨ms,em,lm⟩:=dW ns none (some B);refine⟨(by show 1<=sizeLine;decide),λl1 p=>⟨_,rfl,B,rfl,a,ns.map V.int,rfl,SqL.same U (zH p),λl2 c=>?_⟩⟩;rw[em]at *;have m:l1≠l2:=λz=>by rw[<-z,zm]at c;cases c
   have F:H l2=none:=by rw[zj m.symm]at c;exact c
   refine⟨l1,l2,[.int 0],ms.map V.int,rfl,rfl,by rw[zj m];exact zm,zm,by rw[zN0];exact zR4 (yk (by simp;lia)),λl3 b=>?_⟩;have Z:([V.int 0]++ms.map V.int)=((0::ms).map V.int):=rfl;rw[Z];have s3:zt H (upd (upd (upd H l1 (.lst [.int 0])) l2 (.lst (ms.map V.int))) l3 (.lst ((0::ms).map V.int))):=((zH p).trans (zH c)).trans (zH b);have g:H l3=none:=by
    have A:l3≠l2:=λz=>by rw[z,zm]at b;cases b
    have u:l3≠l1:=λz=>by rw[z,zj m,zm]at b;cases b
    rw[zj A,zj u]at b;exact b
   refine⟨l3,rfl,⟨_,SqL.of zm⟩,hR ((0::ms).map .int) _ _ (n cdv t outer s H E (0::ms) hr (by simp;exact zO0 lm hn)) (D.tp.same s3) (Kz.of_same s3) λi H2 p' J=>⟨λd hd=>?_,λL=>?_⟩⟩
   ·have ha:=SqL.of (K:=K) (zi (J l3 _ (zF (q (uq C g)) zm))).2;obtain⟨v,o,av⟩:=(vZ (G:=H) (0::ms)).get hd;refine⟨⟨_,v,ha,o⟩,λx' H3 y=>?_⟩;obtain⟨e,y⟩:=y;subst e;have:=y _ ha;rw[o]at this;cases this;rw[zO8,zQ0]at hd o;obtain⟨z1,O,rfl⟩:=hd;obtain⟨z2,I,rfl⟩:=o;rw[O]at I;cases I;exact⟨zt.refl _,λ_=>.int _⟩
   ·exact⟨_,SqL.of (zi (J l3 _ (zF (q (uq C g)) zm))).2,by rw[zN0]at L ⊢;exact L⟩
end
section
variable {X:Cx}{α:Ev}{p pos ap:Pos}{a b c:Expr}{Q:PyData->Prop}
theorem kK (h0:Heap){x:Str}{kvs:List (Str×Value)}{D:List (PyData×PyData)}(h:PyProof.V.FlatPairs PyData.str kvs D)(d:∀q∈D,∃v,scV q.2=some v):∃v,scV ((tH D x).getD .none)=some v/\RelV v ((valueAt kvs x).getD .none):=by
 induction h with
 |nil=>exact⟨.non,rfl,rfl⟩
 |@cons k u d' kvs D f r ih=>
  unfold tH;by_cases q:k=x
  ·rw[if_pos q];obtain⟨v,g⟩:=d (.str k,d') zO1;refine⟨v,g,?_⟩;have e:valueAt ((k,u)::kvs) x=some u:=by simp[valueAt,q]
   rw[e];exact aX h0 g f
  ·rw[if_neg q];obtain⟨v,i,j⟩:=ih λz hz=>d z (zN7 _ hz);refine⟨v,i,?_⟩;have e:valueAt ((k,u)::kvs) x=valueAt kvs x:=by simp[valueAt,zU1,q]
   rw[e];exact j
theorem bY {keys:List (Option Expr)}{values:List Expr}{D:List (PyData×PyData)}{ty:TE}(R:litPairs keys values=some D)(U:strKeyed D=true)(h2:(strKeysOf D).Nodup)(O:keys.all (·.isSome)=true)(h4:keys.length=values.length)(S:keys≠[])(h6:keys.length<=15)(u:∀q∈D,∃v,scV q.2=some v)(hi:PE X a ty)
  (j:attributeBase (.Dict keys values p) "get" X.env (eval (.Dict keys values p) X.env)=eval (.Dict keys values p) X.env)
  (k:((backTo pos (starEach [a] X.env)).all (λx=>!x.1)&&(backToKw pos (keywordEach [] X.env)).all (λx=>x.1.isSome)&&decide (([a]:List Expr).length+([]:List Keyword).length+(if([]:List Keyword).isEmpty then 0 else 1)<30))=true)
  (g:(ap.endLine == pos.line)=true) (A:backTo pos (starEach [a] X.env)=[(false,eval a X.env)]):
  PE X (.Call (.Attribute (.Dict keys values p) "get" ap) [a] [] pos) (λσ H Q=>ty σ H λy H1=>∃x v,y=.str x/\scV ((tH D x).getD .none)=some v/\Q v H1):=by
 intro pins s σ H Q I h;refine wpAny_Call_method j k g PySem.F.plainAttrs_dict PySem.F.slot_dict_get PySem.F.type_dict_get (Dict_lits_str R U h2 O h4 S h6 λad o d tk f r tab kp=>?_);obtain⟨kvs,l,W⟩:=tab;have J:Inv X pins σ H {s with heap:=d,toks:=tk}:=I.kept kp;have i:∀v,o.data≠.cell v:=λv z=>by
  obtain⟨es,ep,_,e,_⟩:=l;rw[e]at z;cases z
 have E:Inv X ((ad,o)::pins) σ H {s with heap:=d,toks:=tk}:=J.pins_of λq hq=>by
  rcases zN6.mp hq with rfl|hq
  ·exact⟨r,I.hok.fresh f,λz=>absurd I.lt (by rw[<-z];exact Nat.not_lt.mpr f),I.nofs f,i⟩
  ·exact J.pin q (by first|exact hq|exact zO6 _ hq|exact zP6 _ hq)
 obtain⟨es,ep,a1,a2,G,M,N⟩:=l;have C:d.DictOf (PySem.strKind X.prog X.w) ad kvs:=⟨o,es,ep,r,a1,a2,G,M,N⟩;refine⟨C.typeIs,λz hz=>?_,?_⟩
 ·cases hz;exact⟨o,r,a1.2.1⟩
 rw[A];refine Calls.callWith_builtin rfl (Calls.evalArgs_plain (Calls.spliced_cons (thn (hi _ _ σ H _ E h) λiv s2 B=>?_)));obtain⟨y,L,n,Y,x,v,ey,P,Z⟩:=B;refine Calls.spliced_nil ?_;subst ey;obtain⟨t,rfl⟩:=Y;have V:=n.pin (ad,o) (by first|exact zO1|exact zO6 _ zO1|exact zP6 _ zO1);have K:s2.heap.DictOf (PySem.strKind X.prog X.w) ad kvs:=⟨o,es,ep,V.1,a1,a2,G,M,N⟩;have T:Inv X pins σ L s2:=n.pins_of λq hq=>n.pin q (by rcases zP4.mp (zO6 X.pn hq)with z|z;exact zP6 _ z;exact zO6 _ (zN7 _ z));have m:(ad == sysModules)=false:=by
  have hb:sysModules<s.heap.objs.size:=z05 (by decide) (I.mod.glob.keeps I.bk).lt;exact zZ9.mpr λz=>absurd hb (by rw[<-z];exact Nat.not_lt.mpr f)
 refine call_meetsIn PySem.F.slot_dict_get K.typeIs PySem.F.entry_dict_get (PySem.F.args_dict_get_2 _ _) (meets_dict_get (PySem.strKind X.prog X.w) ad (show(PySem.strKind X.prog X.w).is x (.str x t)=true by simp[PySem.strKind,Value.isStrOf]) m) ⟨_,K.mapOf,?_⟩;obtain⟨v',g1,g2⟩:=kK s.heap (x:=x) W u;rw[P]at g1;cases g1;exact⟨v,L,T.tok _,g2,Z⟩
theorem de {keys:List (Option Expr)}{values:List Expr}{D:List (PyData×PyData)}(l:litPairs keys values=some D)(o:strKeyed D=true)(s:(strKeysOf D).Nodup)(g:∀q∈D,∃v,scV q.2=some v)(h:EvD X α a λy=>∃x v,y=.str x/\scV ((tH D x).getD .none)=some v/\Q ((tH D x).getD .none))
  (j:keys.all (·.isSome)=true:=by rfl) (t:keys.length=values.length:=by rfl) (n:keys≠[]:=by exact List.cons_ne_nil _ _) (w:keys.length<=15:=by decide)
  (e:attributeBase (.Dict keys values p) "get" X.env (eval (.Dict keys values p) X.env)=eval (.Dict keys values p) X.env:=by rfl)
  (f:((backTo pos (starEach [a] X.env)).all (λx=>!x.1)&&(backToKw pos (keywordEach [] X.env)).all (λx=>x.1.isSome)&&decide (([a]:List Expr).length+([]:List Keyword).length+(if([]:List Keyword).isEmpty then 0 else 1)<30))=true:=by rfl)
  (d:(ap.endLine == pos.line)=true:=by rfl) (i:backTo pos (starEach [a] X.env)=[(false,eval a X.env)]:=by rfl):EvD X α (.Call (.Attribute (.Dict keys values p) "get" ap) [a] [] pos) Q:=λF σ H R m k=>by
 refine⟨_,bY l o s j t n w g zf e f d i,?_⟩;refine h F σ H _ m λy A H1 u t1 z r=>?_;obtain⟨x,v,rfl,g2,q⟩:=u;cases r.str_inv;exact⟨x,v,rfl,g2,k _ _ H1 q t1 z (fO g2)⟩
end
section
variable {X:Cx}{α:Ev}{E:yo}{rest:List Stmt}{tg iter:Expr}{pos:Pos}
end
end L2
namespace SetW
open PySem PyProof.Rows
abbrev Up (xs:Array Nat):Prop:=xs.toList.Pairwise (·<·)
def Ris (t:SetTable):Prop:=t.plain=true->Up t.place
theorem Up.lt {xs:Array Nat}(h:Up xs){i j:Nat}(a:i<j)(b:j<xs.size):xs[i]'(z05 a b)<xs[j]:=by
 have:=zV4.mp h i j (by simpa using z05 a b) (by simpa using b) a;simpa using this
theorem rz {xs:Array Nat}(h:Up xs)(j:Nat):∀f lo up,up-lo<=f->lo<=up->up<=xs.size->(∀i (hi:i<xs.size),i<lo->xs[i]<j)->(∀i (hi:i<xs.size),up<=i->j<=xs[i])->
  SetTable.below.go xs j f lo up<=xs.size/\(∀i (hi:i<xs.size),i<SetTable.below.go xs j f lo up->xs[i]<j)/\(∀i (hi:i<xs.size),SetTable.below.go xs j f lo up<=i->j<=xs[i])
 |0,lo,up,hf,hle,c,d,g=>by
  have e:lo=up:=by lia
  subst e;exact⟨c,d,g⟩
 |f+1,lo,up,hf,hle,c,d,g=>by
  unfold SetTable.below.go;by_cases b:lo<up
  ·rw[if_pos b];have hm:(lo+up) / 2<xs.size:=by lia
   have l:xs.getD ((lo+up) / 2) j=xs[(lo+up) / 2]:=by simp[Array.getD,hm]
   dsimp only;rw[l];by_cases k:xs[(lo+up) / 2]<j
   ·rw[if_pos k];refine rz h j f ((lo+up) / 2+1) up (by lia) (by lia) c (λi a m=>?_) g;rcases zS6 i ((lo+up) / 2)with z|z
    ·exact z05 (h.lt z hm) k
    ·have e:i=(lo+up) / 2:=by lia
     subst e;exact k
   ·rw[if_neg k];refine rz h j f lo ((lo+up) / 2) (by lia) (by lia) (by lia) d (λi a m=>?_);rcases zS6 ((lo+up) / 2) i with z|z
    ·have:=h.lt z a
     lia
    ·have e:i=(lo+up) / 2:=by lia
     subst e
     lia
  ·rw[if_neg b];have e:lo=up:=by lia
   subst e;exact⟨c,d,g⟩
theorem ui {xs:Array Nat}(h:Up xs)(j:Nat):SetTable.below xs j<=xs.size/\(∀i (hi:i<xs.size),i<SetTable.below xs j->xs[i]<j)/\(∀i (hi:i<xs.size),SetTable.below xs j<=i->j<=xs[i]):=
 rz h j xs.size 0 xs.size (by lia) (zO5 _) (zN5 _) (λi _ z=>absurd z (z86 _)) (λi hi z=>absurd hi (by lia))
theorem iL {xs:Array Nat}(h:Up xs){i:Nat}(hi:i<xs.size):SetTable.below xs xs[i]=i:=by
 obtain⟨a,b,c⟩:=ui h xs[i];rcases zS6 i (SetTable.below xs xs[i])with z|z
 ·have:=b i hi z
  lia
 ·rcases zS6 (SetTable.below xs xs[i]) i with y|y
  ·have d:=c _ (by lia) (zN5 _);have e:=h.lt y hi
   lia
  ·lia
theorem mT {xs:Array Nat}(h:Up xs){i:Nat}(hi:i<xs.size):SetTable.below xs (xs[i]+1)=i+1:=by
 obtain⟨a,b,c⟩:=ui h (xs[i]+1);rcases zS6 i (SetTable.below xs (xs[i]+1))with z|z
 ·rcases zS6 (i+1) (SetTable.below xs (xs[i]+1))with y|y
  ·have d:=b (i+1) (by lia) y;have f:=h.lt (zT3 i) (show i+1<xs.size by lia);have e:xs[i.succ]'(by lia)=xs[i+1]'(by lia):=rfl
   lia
  ·lia
 ·have:=c i hi z
  lia
theorem lE {xs:Array Nat}(h:Up xs):SetTable.below xs 0=0:=by
 obtain⟨a,b,c⟩:=ui h 0;rcases zS6 0 (SetTable.below xs 0)with z|z
 ·have:=b 0 (by lia) z
  lia
 ·lia
def Off (t:SetTable)(j:Nat):Prop:=t.place[SetTable.below t.place j]?≠some j
theorem Off.notin {t:SetTable}{j:Nat}(h:Off t j)(u:Up t.place):j∉t.place.toList:=λz=>by
 obtain⟨i,hi,e⟩:=z57 z;have a:i<t.place.size:=by simpa using hi
 have b:t.place[i]=j:=by simpa using e
 have:=iL u a;rw[b]at this;exact h (by rw[this,zW5 a,b])
theorem oF {t:SetTable}{j:Nat}(h:∀i,t.slot j≠.live i):Off t j:=λz=>by
 refine h (SetTable.below t.place j) ?_;unfold SetTable.slot;simp only[z,beq_self_eq_true,z45]
theorem uO {t:SetTable}{ha:Nat->Int}{c:Int}:∀f (p:SetTable.Probe) {j:Nat}{d:Option Nat},(∀x,p.dummy=some x->Off t x)->SetTable.probe.go t ha c f p=some (.empty j d)->Off t j/\∀x,d=some x->Off t x
 |0,p,j,d,_,e=>by cases e
 |f+1,p,j,d,h,e=>by
  unfold SetTable.probe.go at e;split at e
  ·rename_i b;cases e;exact⟨oF (λi z=>by rw[b]at z;cases z),h⟩
  ·rename_i b;refine uO f _ (λx a=>?_) e;have:∀q:SetTable.Probe,(t.advance q).dummy=q.dummy:=λq=>by unfold SetTable.advance;split<;>rfl
   rw[this]at a;cases a;exact oF λi z=>by rw[b]at z;cases z
  ·rename_i i b;have:∀q:SetTable.Probe,(t.advance q).dummy=q.dummy:=λq=>by unfold SetTable.advance;split<;>rfl
   split at e
   ·cases e
   ·exact uO f _ (λx a=>by rw[this]at a;exact h x a) e
theorem bT {t:SetTable}{h:Int}{j:Nat}{b:Bool}(e:t.freeSlot h=some (j,b)):Off t j:=by
 unfold SetTable.freeSlot at e;split at e
 ·rename_i i d g;cases e;obtain⟨c,f⟩:=uO _ _ (λx a=>by unfold SetTable.probeStart at a;cases a) g;cases d with
  |none=>exact c
  |some x=>exact f x rfl
 ·cases e
theorem iA {xs:Array Nat}{j:Nat}(h:Up xs)(f:j∉xs.toList):Up (SetTable.insertAt xs (SetTable.below xs j) j):=by
 obtain⟨a,b,c⟩:=ui h j;have e1:∀y∈xs.toList.take (SetTable.below xs j),y<j:=λy hy=>by
  obtain⟨i,hi,e⟩:=z57 hy;rw[zP7]at hi;rw[List.getElem_take]at e;have:=b i (by simp at hi;lia) (by lia);simp at e
  lia
 have d:∀y∈xs.toList.drop (SetTable.below xs j),j<y:=λy hy=>by
  have hne:y≠j:=λz=>f (z▸zT9 hy);obtain⟨i,hi,e⟩:=z57 hy;rw[zQ9]at hi;rw[z42]at e;have g:i<xs.size-SetTable.below xs j:=by simpa using hi
  have:=c (SetTable.below xs j+i) (by lia) (by lia);simp at e
  lia
 unfold Up;rw[SetTable.toList_insertAt,zQ7];refine⟨h.sublist (zZ1 _ _),List.pairwise_cons.mpr ⟨d,h.sublist (zZ4 _ _)⟩,λy hy z hz=>?_⟩;rcases zN6.mp hz with rfl|hz
 ·exact e1 y hy
 ·exact z05 (e1 y hy) (d z hz)
theorem ze5 {t:SetTable}(es:Array (Int×Value))(h:Int)(x:Value)(r:Ris t):Ris (layNew t es h x).2.1/\(layNew t es h x).2.1.led=t.led:=by
 unfold layNew;split
 ·rename_i j b hf;have c:=bT hf;dsimp only;unfold SetTable.orStandIn;split
  ·refine⟨λa=>?_,rfl⟩;exact iA (r a) (c.notin (r a))
  ·exact⟨λa=>Bool.noConfusion (show false=true from a),rfl⟩
 ·exact⟨λa=>Bool.noConfusion (show false=true from a),rfl⟩
theorem gf {t:SetTable}(es:Array (Int×Value))(n:Nat):Ris (relayAll t es n).2.1/\(relayAll t es n).2.1.led=t.led:=by
 unfold relayAll;split
 ·rename_i t' order hr;unfold SetTable.relaid SetTable.laid at hr;cases ho:SetTable.layClean (SetTable.sizeAbove n-1) (es.map (·.1))with
  |none=>rw[ho]at hr;cases hr
  |some owner=>
   rw[ho]at hr;cases hr;dsimp only;split
   ·refine⟨λ_=>?_,rfl⟩;show(List.toArray _).toList.Pairwise (·<·);rw[List.toList_toArray];have key:∀(l:List Nat),l.Pairwise (·<·)->((l.filterMap λj=>(owner.getD j none).map λy=>(j,y)).map (·.1)).Pairwise (·<·):=by
     intro l d;rw[List.map_filterMap];refine List.Pairwise.sublist ?_ d;have:∀l:List Nat,(l.filterMap λj=>Option.map (λx:Nat×Nat=>x.1) ((owner.getD j none).map λy=>(j,y))).Sublist l:=by
      intro l
      induction l with
      |nil=>exact .slnil
      |cons a l c=>
       rw[z55];cases owner.getD a none with
       |none=>exact c.cons _
       |some y=>exact c.cons_cons _
     exact this l
    exact key _ List.pairwise_lt_range
   ·exact⟨λb=>Bool.noConfusion (show false=true from b),rfl⟩
 ·exact⟨λb=>Bool.noConfusion (show false=true from b),rfl⟩
section
variable {prog:Program}{w:World}{A:Around}{E:Value->Shared->Prop}{s:Shared}
structure WkO (prog:Program)(w:World)(o:Obj)(S:Int->Bool)(n:Nat)(b:Bool)(es:Array (Int×Value))(ep:Nat)(t:SetTable):Prop where
 ex:o.ExactSet
 dt:o.data=.set es ep t
 el:ElemsOf (intKind prog w) es.toList
 mem:∀k,S k=true↔∃e∈es.toList,(intKind prog w).is k e.2=true
 sb:es.size<scanBound
 fit:t.fits es.size=true
 sz:es.size=n
 led:t.led=b
 ris:Ris t
def Wk (prog:Program)(w:World)(h:Heap)(a:Addr)(S:Int->Bool)(n:Nat)(b:Bool):Prop:=∃o es ep t,h.get? a=some o/\WkO prog w o S n b es ep t
theorem Wk.keep {h h':Heap}{a:Addr}{S:Int->Bool}{n:Nat}{b:Bool}(k:∀o,h.get? a=some o->h'.get? a=some o)(x:Wk prog w h a S n b):Wk prog w h' a S n b:=by
 obtain⟨o,es,ep,t,c,r⟩:=x;exact⟨o,es,ep,t,k o c,r⟩
theorem Wk.congr {h:Heap}{a:Addr}{S c:Int->Bool}{n d:Nat}{b:Bool}(x:Wk prog w h a S n b)(e:∀k,S k=c k)(f:n=d):Wk prog w h a c d b:=by
 have:S=c:=funext e;subst this f;exact x
theorem WkO.put {h:Heap}{a:Addr}{o:Obj}{S d:Int->Bool}{n:Nat}{b c:Bool}{es es':Array (Int×Value)}{ep:Nat}{t t':SetTable}(f:h.get? a=some o)(x:WkO prog w o S n b es ep t)
  (el:ElemsOf (intKind prog w) es'.toList) (mem:∀k,d k=true↔∃e∈es'.toList,(intKind prog w).is k e.2=true) (sb:es'.size<scanBound) (fit:t'.fits es'.size=true) (led:t'.led=c) (ris:Ris t'):
  ∃o',(h.update a (Obj.putSet es' t')).get? a=some o'/\WkO prog w o' d es'.size c es' (ep+1) t':=by
 refine⟨{o with data:=.set es' (ep+1) t'},?_,x.ex,rfl,el,mem,sb,fit,rfl,led,ris⟩;have:=z21 (Obj.putSet es' t') f (by rw[putSet_of es' t' x.dt];rfl)
 rwa [putSet_of es' t' x.dt]at this
theorem jI {g:Bool->Sem Unit}(hg:∀(d:Bool) (i:Shared) (Q':Unit->Shared->Prop),Q' () i->wpAny (model prog w) A (g d) Q' E i){a:Addr}{o:Obj}{S v:Int->Bool}{n:Nat}{b:Bool}{es c:Array (Int×Value)}{ep:Nat}{t f:SetTable}
  (z:s.heap.get? a=some o) (x:WkO prog w o S n b es ep t) (el:ElemsOf (intKind prog w) c.toList) (mem:∀k,v k=true↔∃e∈c.toList,(intKind prog w).is k e.2=true) (sb:c.size<scanBound) (fit:f.fits c.size=true) (led:f.led=b) (ris:Ris f)
  {D:Bool} {R:Option Bool->Shared->Prop} (h:∀h',Heap.SameBut a s.heap h'->Wk prog w h' a v c.size b->R (some true) {s with heap:=h'}):
  wpAny (model prog w) A (storeSet a c f >>= λ_=>if(!D&&f.tooFull)=true then(g (relayAll f c (SetTable.grown c.size)).2.2 >>= λ_=>storeSet a (relayAll f c (SetTable.grown c.size)).1 (relayAll f c (SetTable.grown c.size)).2.1 >>= λ_=>pure (some true))else pure (some true)) R E s:=by
 refine zM8 (wpAny_storeSet_of z x.dt ?_ (z69 sb));obtain⟨B,l,p⟩:=x.put z el mem sb fit led ris;have same:=z00 s.heap a (Obj.putSet c f);split
 ·obtain⟨m,u⟩:=gf (t:=f) c (SetTable.grown c.size);have pm:=relayAll_perm f c (SetTable.grown c.size);have ft:=relayAll_fits f c (SetTable.grown c.size);generalize relayAll f c (SetTable.grown c.size)=Z at m u pm ft;obtain⟨j,t3,F⟩:=Z;dsimp only at m u pm ft ⊢;have sz:j.size=c.size:=by rw[<-zU5,pm.length_eq,zU5]
  refine zM8 (hg _ _ _ (zM8 (wpAny_storeSet_of l p.dt ?_ (z69 (by lia)))));obtain⟨C,r,y⟩:=p.put (es':=j) (t':=t3) l (el.perm pm) (λk=>(mem k).trans ⟨λ⟨e,he,q⟩=>⟨e,pm.mem_iff.mpr he,q⟩,λ⟨e,he,q⟩=>⟨e,pm.mem_iff.mp he,q⟩⟩) (by lia) ft (u.trans led) m;rw[sz]at y;exact zN1 (h _ (same.trans (z00 _ a _)) ⟨C,j,_,t3,r,y⟩)
 ·exact zN1 (h _ same ⟨B,c,_,f,l,p⟩)
theorem zu6 {a:Addr}{S:Int->Bool}{n:Nat}{b:Bool}{k:Int}{tk:Tok}{Q:Bool->Shared->Prop}(x:Wk prog w s.heap a S n b)(D:n+1<scanBound)
  (h:∀h',Heap.SameBut a s.heap h'->Wk prog w h' a (λj=>S j||decide (j=k)) (if S k then n else n+1) b->∀r,Q r {s with heap:=h'}):
  wpAny (model prog w) A (setAddHashed a (.int k tk) ((intKind prog w).hash k)) Q E s:=by
 obtain⟨o,es,ep,t,p,x⟩:=x;have g:(intKind prog w).is k (.int k tk)=true:=intKind_is _ _ _ _;have u:(Value.int k tk).scannable=true:=rfl;unfold setAddHashed setAddHashedIn;refine zT0 (zM8 (zZ5 p x.dt x.fit ?_));dsimp only;rw[byScan_of u x.sb x.el,if_pos rfl];unfold setAddByScan;refine zM8 (zM8 (zW9 (zM8 (wpAny_setScan_of g p x.dt x.fit x.el ?_))));cases hr:List.findIdx? (λe=>(intKind prog w).is k e.2) es.toList with
 |some j=>
  obtain⟨J,C,_⟩:=List.findIdx?_eq_some_iff_getElem.mp hr;have i:S k=true:=(x.mem k).mpr ⟨_,zS7 J,C⟩;refine zN1 (zN1 ?_);have q:=h s.heap (Heap.SameBut.refl a s.heap) ⟨o,es,ep,t,p,x.ex,x.dt,x.el,λI=>by
   rw[z38,zZ2,<-x.mem I];exact⟨λz=>z.elim id λe=>e▸i,.inl⟩,x.sb,x.fit,by rw[i];exact x.sz,x.led,x.ris⟩
  cases s;exact q _
 |none=>
  have i:S k=false:=by
   cases hk:S k with
   |false=>rfl
   |true=>
    obtain⟨e,he,H⟩:=(x.mem k).mp hk;have:=List.findIdx?_eq_none_iff.mp hr e he;rw[H]at this;cases this
  obtain⟨B,nl⟩:=ze5 es ((intKind prog w).hash k) (.int k tk) x.ris;have pm:=layNew_perm t es ((intKind prog w).hash k) (.int k tk);have ft:=layNew_fits t es ((intKind prog w).hash k) (.int k tk);dsimp only;generalize layNew t es ((intKind prog w).hash k) (.int k tk)=L at B nl pm ft;obtain⟨f,t1,K,M⟩:=L;dsimp only at B nl pm ft ⊢;rw[zZ6]at pm;have F:f.size=n+1:=by rw[<-zU5,pm.length_eq,zQ5,zU5,x.sz];rfl
  have v:ElemsOf (intKind prog w) f.toList:=(x.el.push g u).perm pm;have l:∀j,(S j||decide (j=k))=true↔∃e∈f.toList,(intKind prog w).is j e.2=true:=mem_push_iff g x.mem pm;have fin:∀h',Heap.SameBut a s.heap h'->Wk prog w h' a (λj=>S j||decide (j=k)) f.size b->∀r,Q r {s with heap:=h'}:=λh' sb y=>by
   have:=h h' sb;rw[i]at this;exact this (y.congr (λ_=>rfl) F)
  refine zM8 ?_;have G:∀(d:Bool) (c:Shared) (Q':Unit->Shared->Prop),Q' () c->wpAny (model prog w) A (match d with|true=>rule "set.scan.the-table-gave-way"|false=>pure ()) Q' E c:=λd c Q' hq=>by
   cases d
   ·exact zN1 hq
   ·exact zW9 hq
  refine G _ _ _ ?_;have m:f.size<scanBound:=by lia
  split
  ·rw[show hashByValue 8 (Value.int k tk)=pure true from rfl];refine zM8 (zN1 ?_);simp only[z45];refine jI ?_ p x v l m ft (nl.trans x.led) B λh' sb y=>zN1 (fin h' sb y _);intro d c Q' hq;cases d<;>first|exact zN1 hq|exact zW9 hq
  ·refine zM8 (zN1 ?_);simp only[z45];refine jI ?_ p x v l m ft (nl.trans x.led) B λh' sb y=>zN1 (fin h' sb y _);intro d c Q' hq;cases d<;>first|exact zN1 hq|exact zW9 hq
end
def yV (w:World):Bool:=!w.params.followText "set-order"
abbrev tL (w:World):Obj:={cls:=.type "set",dict:=none,data:=.set #[] 0 (.fresh 0 0 (yV w))}
theorem zf2 {prog:Program}{w:World}:WkO prog w (tL w) (λ_=>false) 0 (yV w) #[] 0 (.fresh 0 0 (yV w)):=
 ⟨⟨rfl,rfl,rfl⟩,rfl,λe he=>by simp at he,λk=>by simp,by decide,by rfl,rfl,rfl,λ_=>.nil⟩
section
variable {prog:Program}{w:World}{A:Around}{E:Value->Shared->Prop}{s:Shared}
theorem zr0 (v:Value){Q₁:Value->Shared->Prop}(h:Q₁ (.ref s.heap.objs.size) {s with heap:=s.heap.push (tL w)}):codeAny (model prog w) A (.call (.builtin "set.__new__") ⟨[.type "set",v],[]⟩) (wants Q₁ E) s:=by
 refine codeAny_of_tree ?_;show wpAny _ A.in1 (checkBuiltinCall "set.__new__" ⟨[.type "set",v],[]⟩ >>= λ_=>again (.builtin "set.__new__" ⟨[.type "set",v],[]⟩)) _ _ s;refine zM8 (z40 (F.newCall_set_1 v) (zN1 ⟨z35 F.plain_set_new _,zY8 F.entry_set_new ?_⟩));rw[zX1 F.plain_set_new _];unfold Builtin.«set.__new__» Builtin.Frozenset.newClass;have a:=sub_set_self;obtain⟨b,g,d,tk,os⟩:=s;dsimp only
 wp_walk
 refine z02 (zN1 ?_);simp only[newObj];exact zM8 (wpAny_alloc (zN1 (zN1 h)))
end
section
variable {prog:Program}{w:World}{A:Around}{R:Result->Shared->Prop}{I:Addr}{fp wr:List Addr}{G:Array GenState->Array GenState->Prop}{n:Nat}{P:Nat->Value->Prop}{St:Nat->Shared->Prop}{b:Bool}
theorem aq (W:WalksS prog w A.in1 I fp wr G n P St)(S:Addr)(p:S∉fp)(val:Nat->Int)(f:∀i v,P i v->∃t,v=.int (val i) t)(hb:n+1<scanBound):
  ∀(k i:Nat) (s:Shared),n-i=k->i<=n->St i s->Wk prog w s.heap S (λj=>(firstMet val i).any (· == j)) (firstMet val i).length b->
   (∀s',Moved (S::wr) G s s'->Wk prog w s'.heap S (λj=>(firstMet val n).any (· == j)) (firstMet val n).length b->R (.ok (.ret .none)) s')->
   codeAny (model prog w) A (.builtin "set.update.loop" ⟨[.ref S,.ref I],[]⟩) R s:=by
 have u:S∉wr:=λh=>p (W.sub _ h);have a:∀c∈wr,c∈S::wr:=λc l=>zN7 _ l;intro k
 induction k with
 |zero=>
  intro i s hk hi d x D;have e:i=n:=by lia
  subst e;refine zY8 F.entry_set_update_loop ?_;rw[zX1 F.plain_set_update_loop _];exact zM8 (W.done s _ _ d λs' hm=>zN1 (D s' (hm.mono a) (x.keep λo C=>hm.heap S _ u C)))
 |succ k M=>
  intro i s hk hi d x D;have m:i<n:=by lia
  refine zY8 F.entry_set_update_loop ?_;rw[zX1 F.plain_set_update_loop _];refine zM8 (W.item i s _ _ m d λv s' E q hm=>?_);obtain⟨t,rfl⟩:=f i v E;have H:Wk prog w s'.heap S (λj=>(firstMet val i).any (· == j)) (firstMet val i).length b:=x.keep λo C=>hm.heap S _ u C;show wpAny _ A.in1 (holding [Value.int (val i) t] (setAdd S (.int (val i) t)) >>= _) _ _ s';refine zM8 (zT0 ?_);unfold setAdd;refine zT0 (zM8 ((intKind prog w).pyHash (k:=val i) (intKind_is _ _ _ _) ?_));have room:(firstMet val i).length+1<scanBound:=by have:=firstMet_length_le val i;lia
  refine zu6 (s:={s' with toks:=s'.toks+1}) H room λh' g K r=>?_;have L:Wk prog w h' S (λj=>(firstMet val (i+1)).any (· == j)) (firstMet val (i+1)).length b:=K.congr (λj=>by rw[firstMet_succ,step_any]) (by rw[firstMet_succ,step_length]);refine zN1 ⟨z35 F.plain_set_update_loop _,M (i+1) _ (by lia) m (W.frame _ s' _ _ q (zX8 _) λc l o e=>?_) L λB y J=>?_⟩
  ·rw[g.2 c λz=>p (by rw[<-z];exact l)];exact e
  ·refine D B (Moved.trans W.gtrans ((hm.mono a).then_heap (zX8 _) λc o l e=>?_) y) J;rw[g.2 c λz=>l (by rw[z];exact zO1)];exact e
end
section
variable {prog:Program}{w:World}{A:Around}{E:Value->Shared->Prop}{s:Shared}
theorem rO {l:Addr}{its:Array Value}{ns:List Int}{Q:Value->Shared->Prop}(Z:A.handled=none)(T:s.heap.IsList l its)(hi:IntsAre its.toList ns)(hb:its.size+1<scanBound)
  (h:∀(h':Heap) (tk:Nat),Wk prog w h' s.heap.objs.size (λj=>(firstMet (λi=>ns.getD i 0) its.size).any (· == j)) (firstMet (λi=>ns.getD i 0) its.size).length (yV w)->
   (∀c o,c<s.heap.objs.size->s.heap.get? c=some o->h'.get? c=some o)->Q (.ref s.heap.objs.size) {s with heap:=h',toks:=tk}):wpAny (model prog w) A (call (.type "set") [.ref l]) Q E s:=by
 obtain⟨c,tl,K⟩:=z30.mro;have H:=z30.made;have I:=z30.sub;refine wpAny_call (codeAny_of_tree ?_);show wpAny _ _ (callAny (.type "set") _) _ _ _;refine zN1 ⟨Code.quiet_builtin _ (by decide +kernel),zY8 F.entry_type_call ?_⟩;rw[Around.under_plain (weight_type_call_type "set" [.ref l] []) rfl];have h1:=z30.notType;have h2:=z30.canCreate;have Y:=F.typeCall_set_1 (.ref l)
 repeat (any_goals (first|assumption|wp_step))
 refine z44 (zr0 (.ref l) (E:=E) (Q₁:=λob f=>ob=.ref s.heap.objs.size/\f={s with heap:=s.heap.push (tL w)}) ⟨rfl,rfl⟩) λr f hr=>?_;cases r with
 |error e=>exact hr
 |ok V=>
  cases V with
  |ret ob=>
   obtain⟨rfl,rfl⟩:=hr;have M:(s.heap.push (tL w)).get? s.heap.objs.size=some (tL w):=zO2 _ rfl;have U:Shared.TypeIs {s with heap:=s.heap.push (tL w)} (.ref s.heap.objs.size) "set":=⟨_,M,rfl⟩;have S:=z30.init.lookup;have hbi:=z30.init.bind (.ref s.heap.objs.size)
   repeat (any_goals (first|assumption|wp_step))
   refine z44 (codeAny_call_builtin (R:=wants (λr d=>r=.none/\∃h' tk,d={s with heap:=h',toks:=tk}/\Wk prog w h' s.heap.objs.size (λj=>(firstMet (λi=>ns.getD i 0) its.size).any (· == j)) (firstMet (λi=>ns.getD i 0) its.size).length (yV w)/\
     (∀c o,c<s.heap.objs.size->s.heap.get? c=some o->h'.get? c=some o)) E) z30.init.plain F.entry_set_init (check_set_init_1 U ?_)) λq d a=>?_
   ·obtain⟨ol,u,hcl,nl,m⟩:=T;obtain⟨L,k,G,b⟩:=ol;simp only at hcl m;subst hcl m;have y:(s.heap.push (tL w)).get? l=some {cls:=.type "list",dict:=k,data:=.seq its nl,slots:=b}:=zM9 _ u;have N:=F.sub_list_set;have O:=F.sub_list_frozenset;have hne:(Value.type "list" == Value.type "dict")=false:=by decide
    have t:(s.heap.push (tL w)).IsList l its:=⟨_,y,rfl,nl,rfl⟩;unfold Builtin.«set.__init__» noKeywords Builtin.Frozenset.updateFrom;generalize C:pyIter=PI
    wp_walk
    subst C;refine z41 t (zM8 (wpAny_runValue ?_));have n:l<s.heap.objs.size:=zO4 u;have sz:(s.heap.push (tL w)).objs.size=s.heap.objs.size+1:=zV5 _ _;have p:l≠(s.heap.push (tL w)).objs.size:=by rw[sz];exact zP1 (zW3 n)
    have D:s.heap.objs.size∉[(s.heap.push (tL w)).objs.size,l]:=by
     rw[sz];simp only[zN6,zP0,zR9,not_or];exact⟨zP1 (zT3 _),zY4 n⟩
    refine aq ((Walks.list (by simp[Z]) _ l p its).toS) s.heap.objs.size D (λi=>ns.getD i 0) (λi v P=>IntsAre.int_at hi i v (by rw[zY1];exact P)) hb (its.size-0) 0 _ (by lia) (zO5 _)
     ⟨⟨_,zO2 _ rfl,rfl,rfl⟩,t.push _⟩ ⟨tL w,_,_,_,zM9 _ M,zf2⟩ λs' hm x=>?_
    obtain⟨h',g',d',B,z⟩:=s';have X:g'=s.gens:=hm.gens;have ed:d'=s.drawn:=hm.drawn;have W:z=s.os:=hm.os;subst X ed W;refine zN1 (zN1 ⟨rfl,h',B,rfl,x,λc o J e=>?_⟩);refine hm.heap c o ?_ (zM9 _ (zM9 _ e));rw[sz];simp only[zN6,zP0,zR9,not_or];exact⟨zP1 J,zP1 (zW3 J)⟩
   ·cases q with
    |error e=>exact a
    |ok g=>
     cases g with
     |ret r=>
      obtain⟨rfl,h',tk,rfl,x,hk⟩:=a
      repeat (any_goals (first|assumption|wp_step))
      exact h _ _ x hk
     |_=>exact a.elim
  |_=>exact hr.elim
end
theorem vN {α:Type}:∀(l:List α) (i:Nat) (x:α),l[i]?=some x->(x::l.eraseIdx i).Perm l
 |[],i,x,h=>by simp at h
 |a::l,0,x,h=>by simp at h;subst h;exact .refl _
 |a::l,i+1,x,h=>by
  have h':l[i]?=some x:=by simpa using h
  exact(List.Perm.swap a x (l.eraseIdx i)).trans ((vN l i x h').cons a)
theorem jG {α:Type}(next:Nat->Nat):∀(f k:Nat) (left:List α) (out:Array α),left.length=f->(pickOrder.go next f k left out).toList.Perm (out.toList++left)
 |0,k,left,out,e=>by
  rw[zX4.mp e,zU0];exact .refl _
 |f+1,k,left,out,e=>by
  unfold pickOrder.go;have a:next k % left.length<left.length:=Nat.mod_lt _ (by lia)
  rw[zN2 a];dsimp only;refine(jG next f (k+1) _ _ (by rw[List.length_eraseIdx];split<;>lia)).trans ?_;rw[zZ6,zQ1];exact zS8 _ (vN left _ _ (zN2 a))
theorem uv {α:Type}(next:Nat->Nat)(xs:Array α):(pickOrder next xs).toList.Perm xs.toList:=by
 have:=jG next xs.size 0 xs.toList #[] (by simp)
 simpa[pickOrder]using this
section
variable {prog:Program}{w:World}{A:Around}{E:Value->Shared->Prop}
theorem gU {M:Model}{src:Source}{n:Nat}{s:Shared}{Q:Nat->Shared->Prop}(hn:n≠0)(h:∀i d,i<n->Q i {s with drawn:=d}):wpAny M A (choose src n) Q E s:=λ_ _ _=>⟨hn,h _ _ (Nat.mod_lt _ (Nat.pos_of_ne_zero hn))⟩
theorem kP {α:Type}:∀(n:Nat) (xs:List α) {s:Shared}{Q:List α->Shared->Prop},xs.length=n->(∀ys d,ys.Perm xs->Q ys {s with drawn:=d})->wpAny (model prog w) A (drawOrder n xs) Q E s
 |0,xs,s,Q,e,h=>by
  rw[zX4.mp e]at h;cases s;exact zN1 (h [] _ (.refl _))
 |n+1,[],s,Q,e,h=>by cases e
 |n+1,x::xs,s,Q,e,h=>by
  unfold drawOrder;refine zM8 (gU (by simp) λi b a=>?_);rw[zN2 a];dsimp only;refine zM8 (kP n _ (by rw[List.length_eraseIdx,if_pos a];simp at e ⊢;lia) λys d hy=>zN1 ?_);exact h _ d ((hy.cons _).trans (vN _ _ _ (zN2 a)))
end
theorem yr :Slot "set_iterator" "__next__" "set_iterator.__next__":=
 .of (owner:="set_iterator") (n:="__next__") (by rw[z85,z47];kernel_rfl) (by decide +kernel) (by decide +kernel) (by decide +kernel) (by first|exact .inl (by decide +kernel)|exact .inr (by decide +kernel)) (by rw[isSubtype_type];kernel_rfl)
theorem wR :entryFor table "set_iterator.__next__"=some Builtin.«set_iterator.__next__»:=entryFor_of_fast (by kernel_rfl)
theorem vS (a:Value):argsOk "set_iterator.__next__" ⟨[a],[]⟩:=by unfold argsOk;kernel_rfl
theorem gL :entryFor table "set.__iter__"=some Builtin.«frozenset.__iter__»:=entryFor_alias (id':="frozenset.__iter__") (by kernel_rfl) rfl (by decide +kernel) (by kernel_rfl)
abbrev itO (f:Value)(i:Nat)(a:Addr)(n ep:Nat):Obj:={cls:=.type "set_iterator",data:=.fields #[f,.int i 0,.ref a,.int n 0,.int ep 0]}
section
variable {prog:Program}{w:World}{A:Around}{E:Value->Shared->Prop}{s:Shared}{I a:Addr}{i n ep:Nat}{o:Obj}{es:Array (Int×Value)}{S:Int->Bool}{m:Nat}{b:Bool}{t:SetTable}{Q:Option Value->Shared->Prop}
theorem zf1 {sl c:Nat}{v:Value}(d:s.heap.get? I=some (itO (.int sl 0) i a n ep))(e:s.heap.get? a=some o)(x:WkO prog w o S m b es ep t)(hn:es.size=n)
  (l:∀(k:Around) (E:Value->Shared->Prop) (Q':Option (Value×Nat)->Shared->Prop),Q' (some (v,c)) s->wpAny (model prog w) k (setNext a sl i ep) Q' E s)
  (g:∀h',h'.get? I=some (itO (.int c 0) (i+1) a n ep)->Heap.SameBut I s.heap h'->Q (some v) {s with heap:=h'}):wpAny (model prog w) A (pyNext (.ref I)) Q E s:=by
 have f:s.TypeIs (.ref I) "set_iterator":=⟨_,d,rfl⟩;unfold pyNext;refine zM8 (zZ7 (zU8 (name:=Str.ofString "__next__") f yr (zU2 yr f wR ?_ (vS _))));unfold Builtin.«set_iterator.__next__»;refine zM8 (z40 (a:=(Value.ref I,([]:List Value))) (by rfl) (zM8 (wpAny_fieldsOf d rfl ?_)));refine zM8 (z31 e x.dt x.fit ?_);rw[hn];refine zR7 (λz=>absurd z (by simp)) (λ_=>?_);refine zM8 (l _ _ _ ?_);refine zM8 (zV0 d (by simp) λp e1 s1=>?_);refine zM8 (zV0 e1 (by simp) λj h s2=>?_);exact zN1 ⟨v,rfl,zN1 (g j h (s1.trans s2))⟩
theorem zw5 {sl:Nat}(j:A.handled=none)(c:s.heap.get? I=some (itO (.int sl 0) i a n ep))(d:s.heap.get? a=some o)(x:WkO prog w o S m b es ep t)(hn:es.size=n)
  (h:∀(g:Around) (E:Value->Shared->Prop) (Q':Option (Value×Nat)->Shared->Prop),Q' none s->wpAny (model prog w) g (setNext a sl i ep) Q' E s)
  (f:∀h',Heap.ExtBut I s.heap h'->Q none {s with heap:=h'}):wpAny (model prog w) A (pyNext (.ref I)) Q E s:=by
 have e:s.TypeIs (.ref I) "set_iterator":=⟨_,c,rfl⟩;unfold pyNext;refine zM8 (zZ7 (zU8 (name:=Str.ofString "__next__") e yr (zU2 yr e wR ?_ (vS _))));unfold Builtin.«set_iterator.__next__»;refine zM8 (z40 (a:=(Value.ref I,([]:List Value))) (by rfl) (zM8 (wpAny_fieldsOf c rfl ?_)));refine zM8 (z31 d x.dt x.fit ?_);rw[hn];refine zR7 (λz=>absurd z (by simp)) (λ_=>?_);refine zM8 (h _ _ _ ?_);refine zM8 (zV0 c (by simp) λk e1 s1=>?_);refine zM8 ?_;simp only[newExc,newTuple];refine zM8 (zT5 ?_ (by size_fits));refine zM8 (m:=firstArgMember _ _) (z40 (a:=Value.none) (by first|rfl|(simp only[firstArgMember];rfl)) ?_);refine zT5 ?_ (by size_fits);simp only[raiseNew];refine zM8 (wpAny_handled ?_);rw[show A.in1.handled=none from j];refine zM8 (zN1 (wpAny_throw ?_));refine zM8 (z76 (T:="StopIteration") (b:=true) ⟨_,zO2 _ rfl,rfl⟩ isSubtype_stop ?_);exact zN1 (f _ ((s1.extBut.push _).push _))
theorem cD {tp:Addr}{ot:Obj}{places:Array Value}{c:Nat}{k:Nat}{u:Tok}{e:Int×Value}(g:s.heap.get? I=some (itO (.ref tp) i a n ep))(h:s.heap.get? tp=some ot)(f:ot.data=.seq places c)(d:s.heap.get? a=some o)(x:WkO prog w o S m b es ep t)(hn:es.size=n)
  (r:places[i]?=some (.int k u)) (he:es[k]?=some e)
  (l:∀h',h'.get? I=some (itO (.ref tp) (i+1) a n ep)->Heap.SameBut I s.heap h'->Q (some e.2) {s with heap:=h'}):wpAny (model prog w) A (pyNext (.ref I)) Q E s:=by
 have j:s.TypeIs (.ref I) "set_iterator":=⟨_,g,rfl⟩;unfold pyNext;refine zM8 (zZ7 (zU8 (name:=Str.ofString "__next__") j yr (zU2 yr j wR ?_ (vS _))));unfold Builtin.«set_iterator.__next__»;refine zM8 (z40 (a:=(Value.ref I,([]:List Value))) (by rfl) (zM8 (wpAny_fieldsOf g rfl ?_)));refine zM8 (z31 d x.dt x.fit ?_);rw[hn];refine zR7 (λz=>absurd z (by simp)) (λ_=>?_);refine zM8 (zX0 h f ?_);dsimp only;rw[zS2,r];dsimp only;unfold setNextDrawn;refine zM8 (zM8 (zZ5 d x.dt x.fit ?_));dsimp only;rw[zS2,zS2];refine zR7 (λz=>absurd z (by simp)) (λ_=>?_);rw[he];refine zN1 ?_;refine zM8 (zV0 g (by simp) λq p s2=>?_);exact zN1 ⟨e.2,rfl,zN1 (l q p s2)⟩
theorem aS {tp:Addr}{ot:Obj}{places:Array Value}{c:Nat}(l:A.handled=none)(e:s.heap.get? I=some (itO (.ref tp) i a n ep))(f:s.heap.get? tp=some ot)(d:ot.data=.seq places c)(g:s.heap.get? a=some o)(x:WkO prog w o S m b es ep t)(hn:es.size=n)
  (p:places[i]?=none) (k:∀h',Heap.ExtBut I s.heap h'->Q none {s with heap:=h'}):wpAny (model prog w) A (pyNext (.ref I)) Q E s:=by
 have h:s.TypeIs (.ref I) "set_iterator":=⟨_,e,rfl⟩;unfold pyNext;refine zM8 (zZ7 (zU8 (name:=Str.ofString "__next__") h yr (zU2 yr h wR ?_ (vS _))));unfold Builtin.«set_iterator.__next__»;refine zM8 (z40 (a:=(Value.ref I,([]:List Value))) (by rfl) (zM8 (wpAny_fieldsOf e rfl ?_)));refine zM8 (z31 g x.dt x.fit ?_);rw[hn];refine zR7 (λz=>absurd z (by simp)) (λ_=>?_);refine zM8 (zX0 f d ?_);dsimp only;rw[zS2,p];refine zM8 (zV0 e (by simp) λh0 j s0=>?_);refine zM8 (zV0 j (by simp) λq e1 s1=>?_);refine zM8 ?_;simp only[newExc,newTuple];refine zM8 (zT5 ?_ (by size_fits));refine zM8 (m:=firstArgMember _ _) (z40 (a:=Value.none) (by first|rfl|(simp only[firstArgMember];rfl)) ?_);refine zT5 ?_ (by size_fits);simp only[raiseNew];refine zM8 (wpAny_handled ?_);rw[show A.in1.handled=none from l];refine zM8 (zN1 (wpAny_throw ?_));refine zM8 (z76 (T:="StopIteration") (b:=true) ⟨_,zO2 _ rfl,rfl⟩ isSubtype_stop ?_);exact zN1 (k _ (((s0.trans s1).extBut.push _).push _))
theorem kn (c:s.heap.get? a=some o)(x:WkO prog w o S m b es ep t)(f:yV w=true)(hb:b=true)(j:(!t.plain&&decide (es.size > 1))=false)(hi:i<es.size)(e:Around)(E:Value->Shared->Prop)(Q':Option (Value×Nat)->Shared->Prop){sl:Nat}(g:SetTable.below t.place sl=i)
  (q:∀(k:i<t.place.size),Q' (some (es[i].2,t.place[i]+1)) s):wpAny (model prog w) e (setNext a sl i ep) Q' E s:=by
 have h:w.params.followText "set-order"=false:=by simpa[yV]using f
 have hpl:t.place.size=es.size:=by
  have:=x.fit;simp only[SetTable.fits,zR5,z48]at this;exact this.1
 unfold setNext;refine zM8 (zZ5 c x.dt x.fit ?_);dsimp only;unfold setsByText;refine zM8 (zM8 (z02 (zN1 ?_)));refine zR7 (λz=>absurd z (by show ¬(w.params.followText "set-order"=true);rw[h];decide)) (λ_=>?_);have d:t.led=true:=x.led.trans hb;refine zR7 (λz=>absurd (show(!t.plain&&decide (es.size > 1))=true from z) (by rw[j];decide)) (λ_=>?_);refine zM8 ((?_:wpAny (model prog w) e (if(!t.led&&!es.isEmpty)=true then unsupported "set:maker-not-led" else pure ()) _ E s));rw[d];refine zN1 ?_;rw[g,zW5 hi,zW5 (show i<t.place.size by lia)];exact zN1 (q (by lia))
theorem gA (c:s.heap.get? a=some o)(x:WkO prog w o S m b es ep t)(f:yV w=true)(hb:b=true)(j:(!t.plain&&decide (es.size > 1))=false)(e:Around)(E:Value->Shared->Prop)(Q':Option (Value×Nat)->Shared->Prop){sl:Nat}(g:SetTable.below t.place sl=es.size)
  (q:Q' none s):wpAny (model prog w) e (setNext a sl i ep) Q' E s:=by
 have h:w.params.followText "set-order"=false:=by simpa[yV]using f
 unfold setNext;refine zM8 (zZ5 c x.dt x.fit ?_);dsimp only;unfold setsByText;refine zM8 (zM8 (z02 (zN1 ?_)));refine zR7 (λz=>absurd z (by show ¬(w.params.followText "set-order"=true);rw[h];decide)) (λ_=>?_);have d:t.led=true:=x.led.trans hb;refine zR7 (λz=>absurd (show(!t.plain&&decide (es.size > 1))=true from z) (by rw[j];decide)) (λ_=>?_);refine zM8 ((?_:wpAny (model prog w) e (if(!t.led&&!es.isEmpty)=true then unsupported "set:maker-not-led" else pure ()) _ E s));rw[d];refine zN1 ?_;rw[g,Array.getElem?_eq_none (zN5 _)];exact zN1 q
theorem qW (c:s.heap.get? a=some o)(x:WkO prog w o S m b es ep t)(f:yV w=false)(g:Around)(E:Value->Shared->Prop)(Q':Option (Value×Nat)->Shared->Prop){sl:Nat}
  (q:Q' (((pickOrder (w.params.setOrder a ep) es)[i]?).map λe=>(e.2,sl)) s):wpAny (model prog w) g (setNext a sl i ep) Q' E s:=by
 have d:w.params.followText "set-order"=true:=by simpa[yV]using f
 unfold setNext;refine zM8 (zZ5 c x.dt x.fit ?_);dsimp only;unfold setsByText;refine zM8 (zM8 (z02 (zN1 ?_)));refine zR7 (λ_=>?_) (λz=>absurd d z);refine zR7 (λz=>absurd z (by simp)) (λ_=>?_);unfold setWalk;refine zM8 (zM8 (zZ5 c x.dt x.fit ?_));dsimp only;unfold setsByText;refine zM8 (zM8 (z02 (zN1 ?_)));refine zR7 (λ_=>?_) (λz=>absurd d z);exact zM8 (z02 (zN1 (zN1 q)))
end
theorem me :Slot "set_iterator" "__iter__" "set_iterator.__iter__":=
 .of (owner:="set_iterator") (n:="__iter__") (by rw[z85,z47];kernel_rfl) (by decide +kernel) (by decide +kernel) (by decide +kernel) (by first|exact .inl (by decide +kernel)|exact .inr (by decide +kernel)) (by rw[isSubtype_type];kernel_rfl)
theorem hU :entryFor table "set_iterator.__iter__"=some Builtin.«dict_keyiterator.__iter__»:=entryFor_alias (id':="dict_keyiterator.__iter__") (by kernel_rfl) rfl (by decide +kernel) (by kernel_rfl)
theorem di (a:Value):argsOk "set_iterator.__iter__" ⟨[a],[]⟩:=by unfold argsOk;kernel_rfl
section
variable {prog:Program}{w:World}{A:Around}{I a:Addr}{n ep:Nat}{o:Obj}{es:Array (Int×Value)}{S:Int->Bool}{m:Nat}{b:Bool}{t:SetTable}{ord:List Value}
theorem jP {E:Value->Shared->Prop}{s:Shared}{f:Value}{i:Nat}{Q:Value->Shared->Prop}(d:s.heap.get? I=some (itO f i a n ep))(q:Q (.ref I) s):wpAny (model prog w) A (pyIter (.ref I)) Q E s:=by
 have c:s.TypeIs (.ref I) "set_iterator":=⟨_,d,rfl⟩;refine wpAny_pyIter_slot c me (zU2 me c hU ?_ (di _));show wpAny _ _ (ret (.ref I)) _ _ s;exact zN1 ⟨_,rfl,"set_iterator",_,c,yr.lookup,q⟩
theorem zl9 (y:A.handled=none)(hne:a≠I)(x:WkO prog w o S m b es ep t)(hn:es.size=n)(B:ord.length=n)(d:Nat->Nat)
  (r:∀(i:Nat) (s:Shared) (f:Around) (E:Value->Shared->Prop) (Q':Option (Value×Nat)->Shared->Prop),s.heap.get? a=some o->(hi:i<ord.length)->Q' (some (ord[i],d (i+1))) s->wpAny (model prog w) f (setNext a (d i) i ep) Q' E s)
  (p:∀(s:Shared) (f:Around) (E:Value->Shared->Prop) (Q':Option (Value×Nat)->Shared->Prop),s.heap.get? a=some o->Q' none s->wpAny (model prog w) f (setNext a (d n) n ep) Q' E s):
  Walks prog w A I [I,a] [I] n (λi v=>ord[i]?=some v) (λi h=>h.get? I=some (itO (.int (d i) 0) i a n ep)/\h.get? a=some o) where
 sub:=λc g=>by simp at g;simp[g]
 frame:=λi h h' st k=>⟨k I (by simp) _ st.1,k a (by simp) _ st.2⟩
 item:=λi s Q E hi st j=>zf1 st.1 st.2 x hn (λf E Q' q=>r i s f E Q' st.2 (by lia) q) λh' e sb=>by
  cases s;exact j _ h' _ (zN2 (by lia)) ⟨e,by rw[sb.2 a hne];exact st.2⟩ λc u g e=>by rw[sb.2 c λz=>g (by simp[z])];exact e
 done:=λs Q E st j=>zw5 y st.1 st.2 x hn (λf E Q' q=>p s f E Q' st.2 q) λh' e=>by
  cases s;exact j h' _ λc u g l=>e c u (λz=>g (by simp[z])) l
 self:=λi s Q E st q=>jP st.1 q
theorem zG3 {tp:Addr}{ot:Obj}{ks:List Nat}{c:Nat}(B:A.handled=none)(hne:a≠I)(p:tp≠I)(x:WkO prog w o S m b es ep t)(hn:es.size=n)(y:ks.length=n)(hk:∀k∈ks,k<n)(g:ot.data=.seq (ks.map λk=>Value.int (k:Nat) 0).toArray c):
  Walks prog w A I [I,a,tp] [I] n (λi v=>(ks.map λk=>(es.getD k (0,.none)).2)[i]?=some v) (λi h=>h.get? I=some (itO (.ref tp) i a n ep)/\h.get? a=some o/\h.get? tp=some ot) where
 sub:=λc f=>by simp at f;simp[f]
 frame:=λi h h' st k=>⟨k I (by simp) _ st.1,k a (by simp) _ st.2.1,k tp (by simp) _ st.2.2⟩
 item:=λi s Q E hi st l=>by
  have d:i<ks.length:=by lia
  have j:ks[i]<es.size:=by rw[hn];exact hk _ (zS7 d)
  refine cD (k:=ks[i]) (u:=0) (e:=es[ks[i]]) st.1 st.2.2 g st.2.1 x hn (by simp[d]) (zW5 j) λh' e sb=>?_;cases s;refine l _ h' _ ?_ ⟨e,by rw[sb.2 a hne];exact st.2.1,by rw[sb.2 tp p];exact st.2.2⟩ λc u f e=>by rw[sb.2 c λz=>f (by simp[z])];exact e
  rw[zO8,zN2 d];simp[Array.getD,j]
 done:=λs Q E st l=>aS B st.1 st.2.2 g st.2.1 x hn (by simp[y]) λh' e=>by
  cases s;exact l h' _ λc u f r=>e c u (λz=>f (by simp[z])) r
 self:=λi s Q E st q=>jP st.1 q
def iG (t:SetTable):Nat->Nat
 |0=>0
 |i+1=>t.place.getD i 0+1
def Wkd (prog:Program)(w:World)(h:Heap)(I a:Addr)(N n:Nat)(ord:List Value):Prop:=∀A:Around,A.handled=none->∃fp St,Walks prog w A I fp [I] n (λi v=>ord[i]?=some v) St/\St 0 h/\(∀c∈fp,c=a\/N<=c)/\I∈fp
theorem zb2 {E:Value->Shared->Prop}{s:Shared}{Q:Value->Shared->Prop}(f:s.heap.get? a=some o)(x:WkO prog w o S m (yV w) es ep t)
  (h:∀(I:Addr) (h':Heap) d (ord:List Value),(∀c u,s.heap.get? c=some u->h'.get? c=some u)->s.heap.objs.size<=I->ord.Perm (es.toList.map (·.2))->Wkd prog w h' I a s.heap.objs.size es.size ord->Q (.ref I) {s with heap:=h',drawn:=d}):wpAny (model prog w) A (pyIter (.ref a)) Q E s:=by
 have H:s.TypeIs (.ref a) "set":=⟨_,f,x.ex.1⟩;have alt:a<s.heap.objs.size:=zO4 f;refine wpAny_pyIter_slot H F.slot_set_iter (zU2 F.slot_set_iter H gL ?_ (F.args_set_iter_1 _));unfold Builtin.«frozenset.__iter__»;refine zM8 (z40 (a:=a) (by rfl) ?_);refine zM8 ?_;unfold Builtin.Frozenset.sizeOf;refine zM8 (z31 f x.dt x.fit (zN1 ?_));refine zM8 ?_;unfold setDrawn;refine zM8 (zZ5 f x.dt x.fit ?_);dsimp only;unfold setsByText;refine zM8 (zM8 (z02 (zN1 (zN1 ?_))));have sz:es.size<=sizeLine:=z69 x.sb;refine zR7 (λhd=>?_) (λhd=>?_)
 ·refine zM8 (kP _ _ (by simp) λks d D=>?_);have L:ks.length=es.size:=by rw[D.length_eq,List.length_range]
  refine zM8 (z64 ?_ (by rw[zN0];lia));generalize C:(s.heap.push {cls:=.type "tuple",data:=.seq (ks.map λ(i:Nat)=>rawInt i).toArray}).objs.size=I;have B:I=s.heap.objs.size+1:=by rw[<-C];exact zV5 _ _
  have K:∀c u,s.heap.get? c=some u->(s.heap.push {cls:=.type "tuple",data:=.seq (ks.map λ(i:Nat)=>rawInt i).toArray}).get? c=some u:=λc u e=>zM9 _ e;refine zM8 (wpAny_setEpoch_of (K _ _ f) x.dt x.fit ?_);refine zM8 (zT5 (zN1 ⟨_,rfl,"set_iterator",_,⟨_,zO2 _ rfl,rfl⟩,yr.lookup,?_⟩));dsimp only;rw[C];have p:∀c u,s.heap.get? c=some u->((s.heap.push {cls:=.type "tuple",data:=.seq (ks.map λ(i:Nat)=>rawInt i).toArray}).push (itO (.ref s.heap.objs.size) 0 a es.size ep)).get? c=some u:=λc u e=>zM9 _ (K c u e);refine h I _ d (ks.map λk=>(es.getD k (0,.none)).2) p (by rw[B];exact zX8 _) ?_ (λA z=>⟨_,_,zG3 (tp:=s.heap.objs.size) z (by rw[B];exact zP1 (zW3 alt)) (by rw[B];exact zP1 (zT3 _)) x rfl L (λk hk=>z91.mp (D.mem_iff.mp hk)) rfl,⟨by rw[<-C];exact zO2 _ rfl,p _ _ f,zM9 _ (zO2 _ rfl)⟩,λc v=>?_,by simp⟩)
  ·have e:es.toList.map (·.2)=(List.range es.size).map λk=>(es.getD k (0,.none)).2:=by
    refine z74 (by simp) λi G O=>?_;have:i<es.size:=by simpa using G
    simp[Array.getD,this]
   rw[e];exact D.map _
  ·simp only[zN6,zP0,zR9]at v;rcases v with rfl|rfl|rfl
   ·rw[B];exact .inr (zX8 _)
   ·exact .inl rfl
   ·exact .inr (zN5 _)
 ·refine zM8 (zN1 (zM8 (wpAny_setEpoch_of f x.dt x.fit ?_)));refine zM8 (zT5 (zN1 ⟨_,rfl,"set_iterator",_,⟨_,zO2 _ rfl,rfl⟩,yr.lookup,?_⟩));have p:∀c u,s.heap.get? c=some u->(s.heap.push (itO (.int (0:Nat) 0) 0 a es.size ep)).get? c=some u:=λc u e=>zM9 _ e;have r:∀c∈[s.heap.objs.size,a],c=a\/s.heap.objs.size<=c:=λc v=>by
   simp only[zN6,zP0,zR9]at v;rcases v with rfl|rfl
   ·exact .inr (zN5 _)
   ·exact .inl rfl
  cases hw:yV w with
  |false=>
   have q:=h s.heap.objs.size _ s.drawn ((pickOrder (w.params.setOrder a ep) es).toList.map (·.2)) p (zN5 _) ((uv _ _).map _) (λA z=>⟨_,_,zl9 z (zP1 alt) x rfl (by rw[zN0,(uv _ es).length_eq];simp) (λ_=>0) (λi s l E Q' e hi q=>qW e x hw l E Q' ?_) (λs l E Q' e q=>qW e x hw l E Q' ?_),⟨zO2 _ rfl,p _ _ f⟩,r,by simp⟩)
   ·exact q
   ·have g:i<(pickOrder (w.params.setOrder a ep) es).size:=by simpa using hi
    rw[zW5 g];simpa using q
   ·rw[Array.getElem?_eq_none (by
     have:=(uv (w.params.setOrder a ep) es).length_eq;simp at this
     lia)]
    exact q
  |true=>
   have M:w.params.followText "set-order"=false:=by simpa[yV]using hw
   have J:¬((!w.params.followText "set-order"&&(!t.plain&&decide (es.size > 1)))=true):=hd;rw[M]at J;have j:(!t.plain&&decide (es.size > 1))=false:=by simpa using J
   have hpl:t.place.size=es.size:=by
    have:=x.fit;simp only[SetTable.fits,zR5,z48]at this;exact this.1
   have up:Up t.place:=by
    cases hp:t.plain with
    |true=>exact x.ris hp
    |false=>
     rw[hp]at j;have:es.size<=1:=by simpa using j
     unfold Up;have G:t.place.toList.length<=1:=by simp;lia
     match N:t.place.toList,G with
     |[],_=>exact .nil
     |[y],_=>exact z67 _ _
   have st:∀i (hi:i<=es.size),SetTable.below t.place (iG t i)=i:=λi hi=>by
    cases i with
    |zero=>exact lE up
    |succ i=>
     have g:i<t.place.size:=by lia
     have e:iG t (i+1)=t.place[i]+1:=by simp[iG,Array.getD,g]
     rw[e];exact mT up g
   have q:=h s.heap.objs.size _ s.drawn (es.toList.map (·.2)) p (zN5 _) (.refl _) (λA z=>⟨_,_,zl9 z (zP1 alt) x rfl (by simp) (iG t) (λi s l E Q' e hi q=>kn e x hw hw j (by simpa using hi) l E Q' (st i (by simp at hi;lia)) λg=>?_) (λs l E Q' e q=>gA e x hw hw j l E Q' (st _ (zN5 _)) q),⟨zO2 _ rfl,p _ _ f⟩,r,by simp⟩)
   ·exact q
   ·have e:iG t (i+1)=t.place[i]+1:=by simp[iG,Array.getD,g]
    rw[e]at q;simpa using q
end
section
variable {prog:Program}{w:World}{A:Around}{E:Value->Shared->Prop}{s:Shared}{a:Addr}{ep:Nat}{o:Obj}{es:Array (Int×Value)}{S:Int->Bool}{m:Nat}{t:SetTable}
theorem bU {Q:Bool->Shared->Prop}(d:s.TypeIs (.ref a) "set")(h:Q false s):wpAny (model prog w) A (Builtin.List.listLengthHint (.ref a)) Q E s:=by
 unfold Builtin.List.listLengthHint;refine zM8 (z84 d F.slot_set_len.lookup ?_);generalize c:("set.__len__":String)=id0
 wp_delta
 rw[show splitId id0=some ("set","__len__")from by subst c;decide +kernel];subst c;refine zM8 (z76 (T:="set") (b:=true) d (by rw[isSubtype_type];kernel_rfl) ?_);refine zR7 (λq=>absurd q (by decide)) λ_=>?_;refine zR7 (λ_=>?_) λq=>absurd (by decide +kernel) q;refine zM8 (wpAny_typeOf d ?_);exact zN1 h
theorem nk {Q:List Value->Shared->Prop}(Z:A.handled=none)(f:s.heap.get? a=some o)(x:WkO prog w o S m (yV w) es ep t)
  (h:∀(h':Heap) d (tk:Nat) (ord:List Value),s.heap.objs.size<h'.objs.size->(∀c u,s.heap.get? c=some u->h'.get? c=some u)->ord.Perm (es.toList.map (·.2))->Q ord {s with heap:=h',drawn:=d,toks:=tk}):wpAny (model prog w) A (collect (.ref a)) Q E s:=by
 have alt:a<s.heap.objs.size:=zO4 f;unfold collect;refine zM8 (wpAny_runValue (zY8 F.entry_proto_collect ?_));rw[zX1 F.plain_proto_collect _];show wpAny _ A.in1 (newList [] >>= λl=>again (.builtin "list.__iadd__" ⟨[l,.ref a],[]⟩)) _ _ s;refine zM8 (zT5 ?_);refine zN1 ⟨z35 F.plain_list_iadd _,zY8 F.entry_list_iadd ?_⟩;rw[zX1 F.plain_list_iadd _];show wpAny _ A.in1 (Builtin.List.listExtendWith (.ref s.heap.objs.size) (.ref a) (.ref s.heap.objs.size)) _ _ _;generalize y:s.heap.objs.size=L;have D:∀c u,s.heap.get? c=some u->(s.heap.push {cls:=.type "list",data:=.seq ([]:List Value).toArray}).get? c=some u:=λc u e=>zM9 _ e;have C:(s.heap.push {cls:=.type "list",data:=.seq ([]:List Value).toArray}).get? L=some {cls:=.type "list",data:=.seq ([]:List Value).toArray}:=by rw[<-y];exact zO2 _ rfl
 have j:(s.heap.push {cls:=.type "list",data:=.seq ([]:List Value).toArray}).objs.size=L+1:=by rw[<-y];exact zV5 _ _
 generalize Y:s.heap.push {cls:=.type "list",data:=.seq ([]:List Value).toArray}=p at D C j;have M:a≠L:=by rw[<-y];exact zP1 alt
 unfold Builtin.List.listExtendWith;refine zM8 (wpAny_typeOf (T:="set") ⟨_,D _ _ f,x.ex.1⟩ ?_);have b1:Builtin.List.listSameRef (.ref L) (.ref a)=false:=by simp[Builtin.List.listSameRef,zS3 M]
 refine zR7 (λz=>absurd z (by rw[b1];decide)) λ_=>?_;refine zM8 (zb2 (D _ _ f) x λI O d ord K P pm V=>?_);refine zM8 (zT0 (bU ⟨_,K _ _ (D _ _ f),x.ex.1⟩ ?_));refine zR7 (λ_=>?_) λq=>absurd (by decide +kernel) q;refine zM8 (zW9 ?_);refine zM8 ?_;show wpAny _ A.in1 (updateSeq L (·.push .none) >>= λ_=>updateSeq L (·.pop)) _ _ _;have k:=K _ _ C;refine zM8 (z22 k rfl ?_);have v:=z21 (Obj.mapSeq (·.push Value.none)) k rfl;refine z22 v rfl ?_;have J:=z21 (Obj.mapSeq (·.pop)) v rfl;have n:∀c u,c≠L->O.get? c=some u->((O.update L (Obj.mapSeq (·.push Value.none))).update L (Obj.mapSeq (·.pop))).get? c=some u:=λc u H e=>(zS4 _ _ (zS3 H)).trans ((zS4 _ _ (zS3 H)).trans e);obtain⟨fp,St,W,U,wf,wI⟩:=V A.in1 (by simp[Z]);have B:L∉fp:=λz=>by
  rcases wf L z with e|e
  ·exact M e.symm
  ·have N:p.objs.size<=L:=e;rw[j]at N;exact absurd N (Nat.not_succ_le_self _)
 refine zN1 ⟨z35 F.plain_extend_loop _,codeAny_extend_loopS W.toS (z69 x.sb) _ B _ es.size 0 _ _ _ rfl (zO5 _) (W.frame 0 _ _ U λc H u e=>n c u (λz=>B (z▸H)) e) J (ItemsOf.nil _) λs' acc c' hm G b=>?_⟩;show wpAny _ A (load L >>= _) _ _ s';refine zM8 (wpAny_load G ?_);have lo:ord.length=es.size:=by rw[pm.length_eq];simp
 have R:acc.toList=ord:=by
  refine List.ext_getElem? λi=>?_;rcases zS6 i es.size with hi|hi
  ·have p:i<acc.size:=by rw[b.1];exact hi
   have:=b.2 i acc[i] (zW5 p);rw[this];simp[p]
  ·rw[zV6 (by simp[b.1];exact hi),zV6 (by lia)]
 have cl:∀{c:Addr} {u:Obj},s.heap.get? c=some u->c<L:=λe=>by rw[<-y];exact zO4 e
 have q:=h s'.heap s'.drawn s'.toks ord (by rw[y];exact zO4 G) (λc u e=>hm.heap c u (λz=>?_) (n c u (zP1 (cl e)) (K _ _ (D _ _ e)))) pm
 ·refine zN1 ?_;show Q acc.toList s';rw[R];obtain⟨hp,g,dr,tk,os⟩:=s';have X:g=s.gens:=hm.gens;have eo:os=s.os:=hm.os;subst X eo;exact q
 ·simp only[zN6,zP0,zR9]at z;rcases z with z|z
  ·exact zP1 (cl e) z
  ·have r:p.objs.size<=I:=P;rw[j]at r;have:=cl e;rw[z]at this;exact absurd (zN4 (zW3 this) r) (zT2 _)
theorem nX :∀{F ms:List Int},F.Nodup->(∀k∈F,k∈ms)->ms.length=F.length->ms.Perm F
 |[],ms,_,_,e=>by rw[zX4.mp e]
 |k::F,ms,nd,sb,e=>by
  have hk:=sb k zO1;have p1:=List.perm_cons_erase hk;obtain⟨n1,n2⟩:=z58.mp nd;have p2:=nX (ms:=ms.erase k) n2 (λj b=>(List.mem_erase_of_ne (λz:j=k=>n1 (z▸b))).mpr (sb j (zN7 _ b))) (by
   have:=p1.length_eq;simp only[zQ2]at this e
   lia)
  exact p1.trans (p2.cons k)
theorem vh (val:Nat->Int):∀n,(firstMet val n).Nodup
 |0=>.nil
 |n+1=>by
  rw[firstMet_succ];unfold step_dedup;split
  ·exact vh val n
  ·rename_i h;rw[List.nodup_append];refine⟨vh val n,by simp,λx b y hy e=>?_⟩;rw[zP8.mp hy]at e;exact h (z77.mpr ⟨x,b,by simp[e]⟩)
theorem jg :∀(l:List (Int×Value)),(∀e∈l,∃k,(intKind prog w).is k e.2=true)->∃ms:List Int,IntsAre (l.map (·.2)) ms/\∀k,k∈ms↔∃e∈l,(intKind prog w).is k e.2=true
 |[],_=>⟨[],.nil,λk=>by simp⟩
 |e::l,h=>by
  obtain⟨ms,c,d⟩:=jg l λx b=>h x (zN7 _ b);obtain⟨k,hk⟩:=h e zO1;obtain⟨t,f⟩:=Value.isInt_shape hk;refine⟨k::ms,?_,λj=>?_⟩
  ·rw[zR6,f];exact .cons k t c
  ·rw[zN6,d]
   constructor
   ·rintro(rfl|⟨x,b,q⟩)
    ·exact⟨e,zO1,hk⟩
    ·exact⟨x,zN7 _ b,q⟩
   ·rintro⟨x,b,q⟩;rcases zN6.mp b with rfl|b
    ·exact .inl ((intKind prog w).inj _ _ _ q hk)
    ·exact .inr ⟨x,b,q⟩
theorem gZ :∀{vs us:List Value}{ms:List Int},us.Perm vs->IntsAre vs ms->∃ns,IntsAre us ns/\ns.Perm ms:=by
 intro vs us ms p
 induction p generalizing ms with
 |nil=>intro h;exact⟨ms,h,.refl _⟩
 |cons x p j=>
  intro h;cases h with
  |cons k t h=>
   obtain⟨ns,e,f⟩:=j h;exact⟨k::ns,.cons k t e,f.cons k⟩
 |swap x y l=>
  intro h;cases h with
  |cons k t h=>
   cases h with
   |cons c t' h=>exact⟨c::k::_,.cons c t' (.cons k t h),.swap k c _⟩
 |trans p1 p2 d b=>
  intro h;obtain⟨ns,e,f⟩:=b h;obtain⟨g,i,n⟩:=d e;exact⟨g,i,n.trans f⟩
end
end SetW
namespace L2
open PySem PySem.Spec PyProof.Rows SetW
section
variable {X:Cx}{α:Ev}{e:Expr}{pos p p2 pos2:Pos}
abbrev vn (zs:List Int):List Int:=firstMet (λi=>zs.getD i 0) zs.length
theorem Inv.drw {pins:List (Addr×Obj)}{σ:List (Option V)}{H:Hp}{s:Shared}(I:Inv X pins σ H s)(d:Drawn):Inv X pins σ H {s with drawn:=d}:=⟨I.ok,I.os,I.bare,I.base,I.loc,I.cell,I.free,I.freeC,I.pin,I.hok,I.len⟩
def SW (P:Program)(w:World)(o:Obj)(zs:List Int):Prop:=∃es ep t,WkO P w o (λk=>(vn zs).any (· == k)) (vn zs).length (yV w) es ep t
theorem iB (i:X.calm=true):xl X (.type "set") (λxs H Q=>∃(l:Addr) (zs:List Int),xs=[.ref l]/\H l=some (.lst (zs.map V.int))/\zs.length<1000/\∀(a:Addr) (o:Obj),H a=none->SW X.prog X.w o zs->Q (.ref a) (upd H a (.frz o (.set (λk=>(vn zs).any (· == k)) (vn zs).length)))):=by
 intro pins s σ H xs us Q I r h;obtain⟨l,zs,rfl,g,j,q⟩:=h;obtain⟨u,rfl,m⟩:=vals1 r;cases m;obtain⟨its,c,pl,hz⟩:=I.list (SqL.of g);have l1:=c.length;rw[zN0]at l1;have sz:its.toArray.size=zs.length:=by simp[l1]
 refine rO (its:=its.toArray) (ns:=zs) (I.ok.hd i) pl.isList (by simpa using intsAre_of c) (by rw[sz];unfold scanBound;lia) λh' tk f hk=>?_;rw[sz]at f;obtain⟨o,es,ep,t,d,x⟩:=f;exact⟨.ref s.heap.objs.size,_,I.laid (o:=.frz o (.set _ _)) (t':=tk) (λb u e=>hk b u (zO4 e) e) (zN5 _) ⟨d,o,es,ep,t,d,x.ex,x.dt,x.el,x.mem,x.sb,x.fit,x.sz⟩,rfl,q _ o (I.hok.fresh (zN5 _)) ⟨es,ep,t,x⟩⟩
theorem zd7 {zs:List Int}{k:Int}:k∈vn zs↔k∈zs:=by
 have a:k∈vn zs↔(vn zs).any (· == k)=true:=by simp
 rw[a,firstMet_any];simp only[z77,zY6,z91,z48]
 constructor
 ·rintro⟨x,⟨i,hi,rfl⟩,rfl⟩;rw[zN3,zN2 hi];exact zS7 hi
 ·intro hk;obtain⟨i,hi,e⟩:=z57 hk;exact⟨k,⟨i,hi,by rw[zN3,zN2 hi];exact e⟩,rfl⟩
end
section
variable {X:Cx}{tg:Expr}
end
section
variable {X:Cx}{α:Ev}{e1 e2 e3 e4 e5 b:Expr}{pos p p1 p2 p3 p4 p5:Pos}{n1 n2 n3 n4 n5:Nat}{k1 k2 k3 k4 k5:Str}{Q:PyData->Prop}
end
end L2
namespace Tim
open PySem PyProof.Rows
def gal :Bool->Keyed->Array Keyed->Nat->Nat->Nat->StateT SortSt Sem (Option Nat):=sortPriv% PySem.Builtin.gallop
abbrev bey (left:Bool)(key:Keyed)(arr:Array Keyed)(base i:Nat):StateT SortSt Sem (Option Bool):=do
 let x <-elem' arr (base+i)
 if left then lt' x key else return (<-lt' key x).map (!·)
structure GB (a₀:Array Keyed)(st:SortSt):Prop where
 perm:(arrOf st).Perm a₀
 kind:kindOf st=oneType'
 failed:failedOf st=none
section
variable {prog:Program}{w:World}{A:Around}{E:Value->Shared->Prop}{s:Shared}
theorem jv {st:SortSt}{x y:Keyed}{a b:Int}{t u:Tok}{Q:Option Bool->SortSt->Prop}(hk:kindOf st=oneType')(c:x.1=.int a t)(hy:y.1=.int b u)(h:Q (some (decide (a<b))) st):wpS (model prog w) A E s (lt' x y) Q st:=by
 rw[lt'_eq];refine zN9 (wpS_get ?_);rw[hk,keyLt'_oneType,c,hy];exact zN9 (wpS_lift (zZ7 (oneLt_int ⟨rfl,zO7 h⟩)))
theorem zJ {st:SortSt}{xs:Array Keyed}{i:Nat}{p:Keyed}{Q:Keyed->SortSt->Prop}(h:xs[i]?=some p)(q:Q p st):wpS (model prog w) A E s (elem' xs i) Q st:=by
 rw[elem'_eq,h];exact zO7 q
theorem yt {xs:Array Keyed}(h:IntKeys xs){i:Nat}(hi:i<xs.size):∃t,xs[i].1=.int (K xs i) t:=by
 obtain⟨n,t,e⟩:=h xs[i] (by simp);refine⟨t,?_⟩;have:K xs i=n:=by
  unfold K;rw[zR2 xs i hi];show numOf xs[i].1=n;rw[e];rfl
 rw[e,this]
def tI (left:Bool)(key:Int)(arr:Array Keyed)(base i:Nat):Bool:=if left then decide (K arr (base+i)<key)else !decide (key<K arr (base+i))
theorem zu9 {st:SortSt}{left:Bool}{key:Keyed}{kz:Int}{kt:Tok}{arr:Array Keyed}{base i:Nat}{Q:Option Bool->SortSt->Prop}(hk:kindOf st=oneType')(a:key.1=.int kz kt)(ia:IntKeys arr)(hi:base+i<arr.size)(h:Q (some (tI left kz arr base i)) st):
  wpS (model prog w) A E s (bey left key arr base i) Q st:=by
 obtain⟨t,e⟩:=yt ia hi;refine zN9 (zJ (zR2 arr _ hi) ?_);cases left with
 |true=>exact jv hk e a h
 |false=>exact zN9 (jv hk a e (zO7 h))
structure Cut (p:Nat->Bool)(n r:Nat):Prop where
 le:r<=n
 lo:∀i,i<r->p i=true
 hi:∀i,r<=i->i<n->p i=false
abbrev TS :=Option (Option Nat)×Nat×Nat
theorem qU {st:SortSt}{p:Nat->Bool}{b:Nat->StateT SortSt Sem (Option Bool)}{n:Nat}{Q:Option Nat->SortSt->Prop}(B:∀{i:Nat}{Q:Option Bool->SortSt->Prop},i<n->Q (some (p i)) st->wpS (model prog w) A E s (b i) Q st)(mono:∀i j,i<=j->j<n->p j=true->p i=true)(h:∀r,Cut p n r->Q (some r) st)
  {f:Nat->TS->StateT SortSt Sem (ForInStep TS)} {F:TS->StateT SortSt Sem (Option Nat)} (f1:∀x lo hi,lo≥hi->f x (none,lo,hi)=pure (.done (none,lo,hi)))
  (f2:∀x lo hi,¬lo≥hi->∃g,f x (none,lo,hi)=b (lo+(hi-lo) / 2) >>= g/\g (some true)=pure (.yield (none,lo+(hi-lo) / 2+1,hi))/\g (some false)=pure (.yield (none,lo,lo+(hi-lo) / 2))) (hF:∀r,F (none,r,r)=pure (some r))
  {lo hi:Nat} (m:lo<=hi) (d:hi<=n) (a:∀i,i<lo->p i=true) (k:∀i,hi<=i->i<n->p i=false):wpS (model prog w) A E s (forIn [0:n] ((none,lo,hi):TS) f >>= F) Q st:=by
 refine zN9 (zZ0 (zU4 (I:=λx c st'=>st'=st/\∃lo hi,c=(none,lo,hi)/\lo<=hi/\hi<=n/\hi-lo<=n-x/\(∀i,i<lo->p i=true)/\∀i,hi<=i->i<n->p i=false)
  (Q:=λc st'=>st'=st/\∃r,c=(none,r,r)/\Cut p n r) ?_ ?_ ⟨rfl,lo,hi,rfl,m,d,by lia,a,k⟩) ?_)
 ·rintro x c st' _ v ⟨rfl,lo,hi,rfl,m,d,o,a,k⟩;by_cases l:lo≥hi
  ·rw[f1 x lo hi l];have e:lo=hi:=by lia
   subst e;exact zO7 ⟨rfl,lo,rfl,d,a,k⟩
  ·obtain⟨g,e,g1,g2⟩:=f2 x lo hi l;rw[e];refine zN9 (B (by lia) ?_);cases z:p (lo+(hi-lo) / 2)with
   |true=>
    rw[g1];exact zO7 ⟨rfl,_,_,rfl,by lia,d,by lia,λi q=>mono i _ (by lia) (by lia) z,k⟩
   |false=>
    rw[g2];refine zO7 ⟨rfl,_,_,rfl,by lia,by lia,by lia,a,λi u t=>?_⟩;cases y:p i with
    |false=>rfl
    |true=>rw[mono _ i u t y]at z;cases z
 ·rintro c st' ⟨rfl,lo,hi,rfl,m,d,o,a,k⟩;have e:lo=hi:=by lia
  subst e;exact⟨rfl,lo,rfl,d,a,k⟩
 ·rintro c st' ⟨rfl,r,rfl,ct⟩;rw[hF];exact zO7 (h r ct)
theorem uC {st:SortSt}{left:Bool}{key:Keyed}{kz:Int}{kt:Tok}{arr:Array Keyed}{base n hint:Nat}{Q:Option Nat->SortSt->Prop}(hk:kindOf st=oneType')(k:key.1=.int kz kt)(ia:IntKeys arr)(hb:base+n<=arr.size)(hn:hint<n)
  (mono:∀i j,i<=j->j<n->tI left kz arr base j=true->tI left kz arr base i=true) (h:∀r,Cut (tI left kz arr base) n r->Q (some r) st):wpS (model prog w) A E s (gal left key arr base n hint) Q st:=by
 generalize o:tI left kz arr base=p at mono h;have B:∀{i:Nat} {Q:Option Bool->SortSt->Prop},i<n->Q (some (p i)) st->wpS (model prog w) A E s (bey left key arr base i) Q st:=λ{i Q} hi q=>zu9 hk k ia (by lia) (by rw[o];exact q);refine zN9 (B hn ?_);dsimp only;cases z0:p hint with
 |true=>
  rw[if_pos rfl];refine zN9 (zZ0 (zU4 (I:=λx c st'=>st'=st/\∃a of,c=(none,a,of)/\a<of/\x+1<=of/\hint+a<n/\p (hint+a)=true)
   (Q:=λc st'=>st'=st/\∃a of,c=(none,a,of)/\a<of/\hint+a<n/\p (hint+a)=true/\(of≥n-hint\/p (hint+of)=false)) ?_ ?_ ⟨rfl,0,1,rfl,by lia,by lia,by lia,z0⟩) ?_)
  ·rintro x c st' _ t ⟨rfl,a,of,rfl,f,m,e,d⟩;dsimp only;by_cases b:of≥n-hint
   ·rw[if_pos b];exact zO7 ⟨rfl,a,of,rfl,f,e,d,.inl b⟩
   ·rw[if_neg b];refine zN9 (B (by lia) ?_);cases z:p (hint+of)with
    |true=>exact zO7 ⟨rfl,of,2*of+1,rfl,by lia,by lia,by lia,z⟩
    |false=>exact zO7 ⟨rfl,a,of,rfl,f,e,d,.inr z⟩
  ·rintro c st' ⟨rfl,a,of,rfl,f,m,e,d⟩;exact⟨rfl,a,of,rfl,f,e,d,.inl (by lia)⟩
  ·rintro c st' ⟨rfl,a,of,rfl,f,e,d,g⟩;refine qU B mono h (λx lo hi z=>if_pos z) (λx lo hi z=>⟨_,if_neg z,rfl,rfl⟩) (λ_=>rfl) (lo:=hint+a+1) (hi:=hint+min of (n-hint)) (by lia) (by lia) (λi hi=>mono i _ (by lia) e d) (λi u l=>?_);rcases g with g|g
   ·lia
   ·cases y:p i with
    |false=>rfl
    |true=>rw[mono _ i (by lia) l y]at g;cases g
 |false=>
  rw[if_neg (by decide)];refine zN9 (zZ0 (zU4 (I:=λx c st'=>st'=st/\∃a of,c=(none,a,of)/\a<of/\x+1<=of/\a<=hint/\p (hint-a)=false)
   (Q:=λc st'=>st'=st/\∃a of,c=(none,a,of)/\a<of/\a<=hint/\p (hint-a)=false/\(of≥hint+1\/p (hint-of)=true)) ?_ ?_ ⟨rfl,0,1,rfl,by lia,by lia,by lia,z0⟩) ?_)
  ·rintro x c st' _ t ⟨rfl,a,of,rfl,f,m,e,d⟩;dsimp only;by_cases b:of≥hint+1
   ·rw[if_pos b];exact zO7 ⟨rfl,a,of,rfl,f,e,d,.inl b⟩
   ·rw[if_neg b];refine zN9 (B (by lia) ?_);cases z:p (hint-of)with
    |true=>exact zO7 ⟨rfl,a,of,rfl,f,e,d,.inr z⟩
    |false=>exact zO7 ⟨rfl,of,2*of+1,rfl,by lia,by lia,by lia,z⟩
  ·rintro c st' ⟨rfl,a,of,rfl,f,m,e,d⟩;exact⟨rfl,a,of,rfl,f,e,d,.inl (by lia)⟩
  ·rintro c st' ⟨rfl,a,of,rfl,f,e,d,g⟩;refine qU B mono h (λx lo hi z=>if_pos z) (λx lo hi z=>⟨_,if_neg z,rfl,rfl⟩) (λ_=>rfl) (lo:=hint+1-min of (hint+1)) (hi:=hint-a) (by lia) (by lia) (λi hi=>?_) (λi u l=>?_)
   ·rcases g with g|g
    ·lia
    ·exact mono i _ (by lia) (by lia) g
   ·cases y:p i with
    |false=>rfl
    |true=>rw[mono _ i (by lia) l y]at d;cases d
end
def mlo :Array Keyed->Array Keyed->StateT SortSt Sem (Array Keyed):=sortPriv% PySem.Builtin.mergeLo
abbrev ky (p:Keyed):Int:=numOf p.1
abbrev Up (l:List Keyed):Prop:=l.Pairwise λx y=>ky x<=ky y
structure Good (a b r:List Keyed):Prop where
 pm:r.Perm (a++b)
 up:Up r
structure MI (a b L:List Keyed)(i j:Nat):Prop where
 ia:i<=a.length
 jb:j<=b.length
 pm:L.Perm (a.take i++b.take j)
 up:Up L
 le:∀x∈L,∀y∈a.drop i++b.drop j,ky x<=ky y
section
variable {a b L:List Keyed}{i j k:Nat}
theorem MI.doneB (h:MI a b L i j)(c:Up a)(e:j=b.length):Good a b (L++a.drop i++b.drop j):=by
 subst e;have e1:b.drop b.length=[]:=z01;rw[e1,zU0];have pm:=h.pm;rw[zU3]at pm;refine⟨?_,zQ7.mpr ⟨h.up,c.sublist (zZ4 _ _),λx d y hy=>h.le x d y (zP6 _ hy)⟩⟩;refine(pm.append_right _).trans ?_;have:(a.take i++b++a.drop i).Perm (a.take i++a.drop i++b):=by
  rw[zQ1,zQ1];exact zS8 _ zW7
 rwa [zP3]at this
theorem MI.doneA (h:MI a b L i j)(c:Up b)(e:i=a.length):Good a b (L++a.drop i++b.drop j):=by
 subst e;have e1:a.drop a.length=[]:=z01;rw[e1,zU0];have pm:=h.pm;rw[zU3]at pm;refine⟨?_,zQ7.mpr ⟨h.up,c.sublist (zZ4 _ _),λx d y hy=>h.le x d y (zO6 _ hy)⟩⟩;refine(pm.append_right _).trans ?_;rw[zQ1,zP3]
theorem MI.last (h:MI a b L i j)(f:Up b)(e:i+1=a.length)(d:∀y∈b,∀x∈a.drop i,ky y<=ky x):Good a b (L++b.drop j++a.drop i):=by
 have ha:a.drop i=[a[i]]:=by rw[zR8 (by lia),List.drop_of_length_le (by lia)]
 refine⟨?_,?_⟩
 ·refine((h.pm.append_right _).append_right _).trans ?_;have:(a.take i++b.take j++b.drop j++a.drop i).Perm (a.take i++a.drop i++b):=by
   rw[zQ1 (a.take i) (b.take j),zP3,zQ1,zQ1];exact zS8 _ zW7
  rwa [zP3]at this
 ·refine zQ7.mpr ⟨zQ7.mpr ⟨h.up,f.sublist (zZ4 _ _),λx c y hy=>h.le x c y (zO6 _ hy)⟩,by rw[ha];exact z67 _ _,λx c y hy=>?_⟩;rcases zP4.mp c with c|c
  ·exact h.le x c y (zP6 _ hy)
  ·exact d x (zT9 c) y hy
theorem MI.appA (h:MI a b L i j)(e:Up a)(hk:i+k<=a.length)(g:∀x∈(a.drop i).take k,∀y∈b.drop j,ky x<=ky y):MI a b (L++(a.drop i).take k) (i+k) j:=by
 have sp:a.drop i=(a.drop i).take k++a.drop (i+k):=by rw[<-List.drop_drop,zP3]
 have d:Up (a.drop i):=e.sublist (zZ4 _ _);rw[sp]at d;obtain⟨l,m,f⟩:=zQ7.mp d;refine⟨hk,h.jb,?_,zQ7.mpr ⟨h.up,l,λx c y hy=>h.le x c y (zP6 _ (zV1 hy))⟩,λx c y hy=>?_⟩
 ·refine(h.pm.append_right _).trans ?_;have:a.take (i+k)=a.take i++(a.drop i).take k:=by rw[z36]
  rw[this,zQ1,zQ1];exact zS8 _ zW7
 ·rcases zP4.mp c with c|c
  ·refine h.le x c y ?_;rcases zP4.mp hy with hy|hy
   ·rw[sp];exact zP6 _ (zO6 _ hy)
   ·exact zO6 _ hy
  ·rcases zP4.mp hy with hy|hy
   ·exact f x c y hy
   ·exact g x c y hy
theorem MI.appB (h:MI a b L i j)(f:Up b)(hk:j+k<=b.length)(g:∀x∈(b.drop j).take k,∀y∈a.drop i,ky x<=ky y):MI a b (L++(b.drop j).take k) i (j+k):=by
 have sp:b.drop j=(b.drop j).take k++b.drop (j+k):=by rw[<-List.drop_drop,zP3]
 have d:Up (b.drop j):=f.sublist (zZ4 _ _);rw[sp]at d;obtain⟨l,m,e⟩:=zQ7.mp d;refine⟨h.ia,hk,?_,zQ7.mpr ⟨h.up,l,λx c y hy=>h.le x c y (zO6 _ (zV1 hy))⟩,λx c y hy=>?_⟩
 ·refine(h.pm.append_right _).trans ?_;have:b.take (j+k)=b.take j++(b.drop j).take k:=by rw[z36]
  rw[this,zQ1]
 ·rcases zP4.mp c with c|c
  ·refine h.le x c y ?_;rcases zP4.mp hy with hy|hy
   ·exact zP6 _ hy
   ·rw[sp];exact zO6 _ (zO6 _ hy)
  ·rcases zP4.mp hy with hy|hy
   ·exact g x c y hy
   ·exact e x c y hy
theorem take1 (l:List Keyed){i:Nat}(h:i<l.length):(l.drop i).take 1=[l[i]]:=by rw[zR8 h];rfl
end
abbrev MA (a b out:Array Keyed)(i j:Nat):Prop:=MI a.toList b.toList out.toList i j
section
variable {a b out:Array Keyed}{i j k:Nat}
theorem vm (a:Array Keyed)(i:Nat):(a.extract i).toList=a.toList.drop i:=by rw[z51,z23,z03 (by simp)]
theorem dg (a:Array Keyed)(i k:Nat):(a.extract i (i+k)).toList=(a.toList.drop i).take k:=by rw[z51,z23,Nat.add_sub_cancel_left]
theorem MA.extA (h:MA a b out i j)(c:Up a.toList)(hk:i+k<=a.size)(d:∀x∈(a.toList.drop i).take k,∀y∈b.toList.drop j,ky x<=ky y):MA a b (out++a.extract i (i+k)) (i+k) j:=by
 have:=h.appA c (by simpa using hk) d;unfold MA
 rwa [zQ6,dg]
theorem MA.extB (h:MA a b out i j)(c:Up b.toList)(hk:j+k<=b.size)(d:∀x∈(b.toList.drop j).take k,∀y∈a.toList.drop i,ky x<=ky y):MA a b (out++b.extract j (j+k)) i (j+k):=by
 have:=h.appB c (by simpa using hk) d;unfold MA
 rwa [zQ6,dg]
theorem MA.pushA (h:MA a b out i j)(c:Up a.toList)(hi:i<a.size)(f:∀y∈b.toList.drop j,ky a[i]<=ky y):MA a b (out.push a[i]) (i+1) j:=by
 have e:(a.toList.drop i).take 1=[a[i]]:=by rw[take1 _ (by simpa using hi)];simp
 have:=h.appA (k:=1) c (by simp;lia) (by rw[e];intro x d;rw[zP8.mp d];exact f);unfold MA
 rwa [e,<-zZ6]at this
theorem MA.pushB (h:MA a b out i j)(f:Up b.toList)(g:j<b.size)(c:∀y∈a.toList.drop i,ky b[j]<=ky y):MA a b (out.push b[j]) i (j+1):=by
 have e:(b.toList.drop j).take 1=[b[j]]:=by rw[take1 _ (by simpa using g)];simp
 have:=h.appB (k:=1) f (by simp;lia) (by rw[e];intro x d;rw[zP8.mp d];exact c);unfold MA
 rwa [e,<-zZ6]at this
theorem MA.finB (h:MA a b out i j)(c:Up a.toList)(e:(j == b.size)=true):Good a.toList b.toList (out++a.extract i++b.extract j).toList:=by
 rw[zQ6,zQ6,vm,vm];exact h.doneB c (by simpa using e)
theorem MA.finA (h:MA a b out i j)(c:Up b.toList)(e:(i == a.size)=true):Good a.toList b.toList (out++a.extract i++b.extract j).toList:=by
 rw[zQ6,zQ6,vm,vm];exact h.doneA c (by simpa using e)
theorem MA.finL (h:MA a b out i j)(g:Up b.toList)(e:(i+1 == a.size)=true)(na:0<a.size)(d:∀y∈b.toList,ky y<=ky a[a.size-1]):Good a.toList b.toList (out++b.extract j++a.extract i).toList:=by
 rw[zQ6,zQ6,vm,vm];have f:i+1=a.size:=by simpa using e
 refine h.last g (by simpa using f) λy hy x c=>?_;have ha:a.toList.drop i=[a[a.size-1]]:=by
  rw[zR8 (by simp;lia),List.drop_of_length_le (by simp;lia)];have:i=a.size-1:=by lia
  subst this;simp
 rw[ha]at c;rw[zP8.mp c];exact d y hy
theorem za2 {l:List Keyed}(u:Up l){i:Nat}(hi:i<l.length):∀y∈l.drop i,ky l[i]<=ky y:=λy hy=>by
 have:=u.sublist (zZ4 i l);rw[zR8 hi]at this hy;rcases zN6.mp hy with rfl|hy
 ·exact zV3 _
 ·exact(List.pairwise_cons.mp this).1 y hy
theorem wz {a:Array Keyed}(u:Up a.toList){i:Nat}(hi:i<a.size):∀y∈a.toList.drop i,ky a[i]<=ky y:=by
 have:=za2 u (i:=i) (by simpa using hi);simpa using this
theorem wt {a:Array Keyed}{i:Nat}(hi:i<a.size):K a i=ky a[i]:=by unfold K;rw[zR2 a i hi]
theorem rQ {a:Array Keyed}(u:Up a.toList){i j:Nat}(d:i<=j)(c:j<a.size):K a i<=K a j:=by
 rw[wt (show i<a.size by lia),wt c];have:=wz u (show i<a.size by lia) a[j] (by
  rw[zT8];exact⟨j-i,by simp;lia,by simp[show i+(j-i)=j by lia]⟩)
 exact this
theorem xP {a:Array Keyed}{left:Bool}{kz:Int}{base n:Nat}(up:∀i j,base<=i->i<=j->j<base+n->K a i<=K a j):∀i j,i<=j->j<n->tI left kz a base j=true->tI left kz a base i=true:=λi j c d h=>by
 have:=up (base+i) (base+j) (by lia) (by lia) (by lia);unfold tI at h ⊢;cases left with
 |true=>simp at h ⊢;lia
 |false=>simp at h ⊢;lia
theorem uH {a:Array Keyed}{left:Bool}{kz:Int}{base n k:Nat}(c:Cut (tI left kz a base) n k){i:Nat}(d:base<=i)(e:i<base+k):K a i<=kz:=by
 have:=c.lo (i-base) (by lia);unfold tI at this;rw[show base+(i-base)=i by lia]at this;cases left with
 |true=>simp at this;lia
 |false=>simp at this;lia
theorem uP {a:Array Keyed}{left:Bool}{kz:Int}{base n k:Nat}(c:Cut (tI left kz a base) n k){i:Nat}(d:base+k<=i)(e:i<base+n):kz<=K a i:=by
 have:=c.hi (i-base) (by lia) (by lia);unfold tI at this;rw[show base+(i-base)=i by lia]at this;cases left with
 |true=>simp at this;lia
 |false=>simp at this;lia
theorem um {a:Array Keyed}{P:Int->Prop}{i k:Nat}(h:∀t,i<=t->t<i+k->t<a.size->P (K a t)):∀x∈(a.toList.drop i).take k,P (ky x):=λx d=>by
 obtain⟨t,c,rfl⟩:=zT8.mp d;simp at c;have:=h (i+t) (by lia) (by lia) (by lia);rw[wt (show i+t<a.size by lia)]at this;simpa using this
theorem nE {a:Array Keyed}{P:Int->Prop}{i:Nat}(h:∀t,i<=t->t<a.size->P (K a t)):∀x∈a.toList.drop i,P (ky x):=λx d=>by
 obtain⟨t,c,rfl⟩:=zT8.mp d;simp at c;have:=h (i+t) (by lia) (by lia);rw[wt (show i+t<a.size by lia)]at this;simpa using this
end
section
variable {prog:Program}{w:World}{A:Around}{E:Value->Shared->Prop}{s:Shared}{a₀:Array Keyed}
abbrev SG (st:SortSt)(g:Nat):SortSt:=SortSt.mk' (kindOf st) (arrOf st) (pendingOf st) g (failedOf st)
theorem share {β:Type}{X Y:Nat->StateT SortSt Sem β}{Q:β->SortSt->Prop}{st:SortSt}{P:Nat->Prop}(hb:∀m,P m->wpS (model prog w) A E s (Y m) Q st)(ha:∀m,P (m-1)->wpS (model prog w) A E s (X m) Q st)(h:∀m,P m)(m:Nat):wpS (model prog w) A E s (if m > 1 then X m else Y m) Q st:=by
 split
 ·exact ha m (h _)
 ·exact hb m (h m)
theorem ou {β:Type}{c:Prop}[Decidable c]{X Y:Array Keyed->Nat->StateT SortSt Sem β}{Q:β->SortSt->Prop}{st:SortSt}{P a:Array Keyed->Nat->Prop}(R:Array Keyed->Nat->Prop)(d:∀o n,P o n->wpS (model prog w) A E s (Y o n) Q st)(hr:∀o n,a o n->¬c->R o n)(key:∀o n,R o n->P o n)(e:∀o n,a o n->c->(∀o n,R o n->P o n)->wpS (model prog w) A E s (X o n) Q st):∀o n,a o n->wpS (model prog w) A E s (if c then X o n else Y o n) Q st:=by
 intro o n b;split
 ·rename_i h;exact e o n b h key
 ·rename_i h;exact d o n (key o n (hr o n b h))
theorem zw2 {st:SortSt}{a b:Array Keyed}{Q:Array Keyed->SortSt->Prop}(hk:kindOf st=oneType')(ia:IntKeys a)(ib:IntKeys b)(N:Up a.toList)(H:Up b.toList)(na:0<a.size)(nb:0<b.size)
  (h1:∀x∈a.toList,ky b[0]<=ky x) (h2:∀y∈b.toList,ky y<=ky a[a.size-1])
  (h:∀r g,Good a.toList b.toList r.toList->Q r (SG st g)):wpS (model prog w) A E s (mlo a b) Q st:=by
 have m0:MA a b #[b[0]] 0 1:=by
  have:MA a b #[] 0 0:=⟨zO5 _,zO5 _,by simp,.nil,λx X=>by simp at X⟩;have:=this.pushB H nb (λy hy=>h1 y (by simpa using hy));simpa using this
 refine zN9 (wpS_lift (zW9 ⟨rfl,?_⟩));refine zN9 (zJ (zR2 b 0 nb) ?_);dsimp only;by_cases c1:(1 == b.size)=true
 ·rw[if_pos c1];exact zO7 (h _ (gallopOf st) (m0.finB N c1))
 rw[if_neg c1];by_cases c2:(0+1 == a.size)=true
 ·rw[if_pos c2];exact zO7 (h _ (gallopOf st) (m0.finL H c2 na h2))
 rw[if_neg c2];refine zN9 (wpS_get ?_);have b0:1<b.size:=by
  have:¬1=b.size:=by simpa using c1
  lia
 have b4:0+1<a.size:=by
  have:¬0+1=a.size:=by simpa using c2
  lia
 refine zN9 (zZ0 (zU4 (I:=λx c st'=>(∃g,st'=SG st g)/\∃out i j mg,c=(none,out,i,j,mg)/\MA a b out i j/\i+1<a.size/\j<b.size/\x+1<=i+j)
  (Q:=λc st'=>(∃g,st'=SG st g)/\∃r,c.1=some r/\Good a.toList b.toList r.toList) ?_ ?_ ⟨⟨_,rfl⟩,_,0,1,_,rfl,m0,b4,b0,by lia⟩) ?_)
 ·rintro x c st' _ X ⟨⟨g,rfl⟩,out,i,j,mg,rfl,m,hi,l,b2⟩;dsimp only;refine zN9 (zZ0 (zU4 (I:=λx c st'=>st'=SG st g/\∃f e d ac D,c=(none,f,e,d,ac,D)/\MA a b f e d/\e+1<a.size/\d<b.size/\i+j+x<=e+d)
   (Q:=λc st'=>st'=SG st g/\((∃r,c.1=some r/\Good a.toList b.toList r.toList)\/∃f e d ac D,c=(none,f,e,d,ac,D)/\MA a b f e d/\e+1<a.size/\d<b.size/\i+j+1<=e+d)) ?_ ?_ ⟨rfl,out,i,j,0,0,rfl,m,hi,l,by lia⟩) ?_)
  ·rintro x c st' _ X ⟨rfl,out,e,d,ac,D,rfl,m,hi,l,F⟩;dsimp only;obtain⟨t1,e1⟩:=yt ib l;obtain⟨t2,e2⟩:=yt ia (show e<a.size by lia);have G:=wt l;have V:=wt (show e<a.size by lia);refine zN9 (zJ (zR2 b d l) (zN9 (zJ (zR2 a e (by lia)) (zN9 (jv hk e1 e2 ?_)))));by_cases hw:K b d<K a e
   ·rw[zS0 hw];dsimp only;rw[if_pos rfl];refine zN9 (zJ (zR2 b d l) ?_);have Y:=m.pushB H l λy hy=>by have:=wz N (show e<a.size by lia) y hy;lia
    by_cases C:(d+1 == b.size)=true
    ·rw[if_pos C];exact zO7 ⟨rfl,.inl ⟨_,rfl,Y.finB N C⟩⟩
    ·rw[if_neg C];have u:d+1<b.size:=by
                      have:¬d+1=b.size:=by simpa using C
                      lia
     by_cases O:D+1≥mg
     ·rw[if_pos O];exact zO7 ⟨rfl,.inr ⟨_,_,_,_,_,rfl,Y,hi,u,by lia⟩⟩
     ·rw[if_neg O];exact zO7 ⟨rfl,_,_,_,_,_,rfl,Y,hi,u,by lia⟩
   ·rw[zQ3 hw];dsimp only;rw[if_neg (by decide)];refine zN9 (zJ (zR2 a e (by lia)) ?_);have Y:=m.pushA N (show e<a.size by lia) λy hy=>by have:=wz H l y hy;lia
    by_cases C:(e+1+1 == a.size)=true
    ·rw[if_pos C];exact zO7 ⟨rfl,.inl ⟨_,rfl,Y.finL H C na h2⟩⟩
    ·rw[if_neg C];have u:e+1+1<a.size:=by
                        have:¬e+1+1=a.size:=by simpa using C
                        lia
     by_cases O:ac+1≥mg
     ·rw[if_pos O];exact zO7 ⟨rfl,.inr ⟨_,_,_,_,_,rfl,Y,u,l,by lia⟩⟩
     ·rw[if_neg O];exact zO7 ⟨rfl,_,_,_,_,_,rfl,Y,u,l,by lia⟩
  ·rintro c st' ⟨rfl,out,e,d,ac,D,rfl,m,hi,l,F⟩;exact⟨rfl,.inr ⟨_,_,_,_,_,rfl,m,hi,l,by lia⟩⟩
  rintro c st' ⟨rfl,hc⟩;rcases hc with⟨r,hr,gd⟩|⟨out,e,d,ac,D,rfl,m,hi,l,F⟩
  ·rw[hr];exact zO7 ⟨⟨g,rfl⟩,r,rfl,gd⟩
  dsimp only;refine zN9 (wpS_lift (zW9 ⟨rfl,?_⟩));clear m0;refine zN9 (zZ0 (zU4 (I:=λ_ c st'=>(∃g,st'=SG st g)/\∃f e d mg ac D,c=(none,f,e,d,mg,ac,D)/\MA a b f e d/\e+1<a.size/\d<b.size/\i+j+1<=e+d)
   (Q:=λc st'=>(∃g,st'=SG st g)/\((∃r,c.1=some r/\Good a.toList b.toList r.toList)\/∃f e d mg ac D,c=(none,f,e,d,mg,ac,D)/\MA a b f e d/\e+1<a.size/\d<b.size/\i+j+1<=e+d)) ?_ ?_ ⟨⟨g,rfl⟩,out,e,d,mg+1,ac,D,rfl,m,hi,l,F⟩) ?_)
  ·clear m hi l F;rintro y c st' _ hy ⟨⟨g,rfl⟩,out,e,d,mg,ac,D,rfl,m,hi,l,F⟩;dsimp only;obtain⟨t1,e1⟩:=yt ib l;have a2:=wt l
   revert mg
   refine share (λ_ z=>z) (λ_ z=>z) λmg=>?_;refine zN9 (z24 ?_);refine zN9 (zJ (zR2 b d l) ?_);refine zN9 (uC hk e1 ia (by lia) (by lia) (xP λp q _ J Z=>rQ N J (by lia)) λG R=>?_);have b1:=R.le;have B:∀y∈a.toList.drop (e+G),ky b[d]<=ky y:=nE (P:=λz=>ky b[d]<=z) λt J Z=>by rw[<-a2];exact uP R J (by lia)
   have T:∀x∈(a.toList.drop e).take G,ky x<=ky b[d]:=um (P:=λz=>z<=ky b[d]) λt J Z _=>by rw[<-a2];exact uH R J Z
   dsimp only;have H0:MA a b out e d/\e+1<a.size/\e+G<=a.size/\(∀y∈a.toList.drop (e+G),ky b[d]<=ky y)/\(∀x∈(a.toList.drop e).take G,ky x<=ky b[d])/\i+j+1<=e+d:=⟨m,hi,by lia,B,T,F⟩;clear m hi F B T R b1
   revert out e H0
   refine ou (λo n=>MA a b o n d/\n+1<a.size/\(∀y∈a.toList.drop n,ky b[d]<=ky y)/\i+j+1<=n+d) (λ_ _ z=>z) ?_ ?_ ?_
   ·rintro out e ⟨m,hi,_,B,_,F⟩ z;have a5:G=0:=by lia
    subst a5;exact⟨m,hi,B,F⟩
   ·rintro W i1 ⟨m1,a0,B,a8⟩;have m2:=m1.pushB H l B;refine zN9 (zJ (zR2 b d l) ?_);by_cases C:(d+1 == b.size)=true
    ·rw[if_pos C];exact zO7 ⟨⟨_,rfl⟩,.inl ⟨_,rfl,m2.finB N C⟩⟩
    rw[if_neg C];have u:d+1<b.size:=by
     have:¬d+1=b.size:=by simpa using C
     lia
    have v:i1<a.size:=by lia
    obtain⟨t2,e2⟩:=yt ia v;refine zN9 (zJ (zR2 a i1 v) ?_);refine zN9 (uC hk e2 ib (by lia) (by lia) (xP λp q _ J Z=>rQ H J (by lia)) λV U=>?_);have a9:=U.le;have a1:=wt v;have H1:MA a b (W.push b[d]) i1 (d+1)/\d+1<b.size/\d+1+V<=b.size/\(∀y∈b.toList.drop (d+1+V),ky a[i1]<=ky y)/\(∀x∈(b.toList.drop (d+1)).take V,ky x<=ky a[i1])/\i+j+1<=i1+(d+1):=
     ⟨m2,u,by lia,nE (P:=λz=>ky a[i1]<=z) λt J Z=>by rw[<-a1];exact uP U J (by lia),um (P:=λz=>z<=ky a[i1]) λt J Z _=>by rw[<-a1];exact uH U J Z,by lia⟩
    dsimp only;clear U a9 m2 u C m1 B a8;generalize W.push b[d]=M at H1 ⊢;generalize d+1=j1 at H1 ⊢
    revert M j1 H1
    refine ou (λo n=>MA a b o i1 n/\n<b.size/\(∀y∈b.toList.drop n,ky a[i1]<=ky y)/\i+j+1<=i1+n) (λ_ _ z=>z) ?_ ?_ ?_
    ·rintro M j1 ⟨m2,u,_,L,_,a4⟩ z;have a7:V=0:=by lia
     subst a7;exact⟨m2,u,L,a4⟩
    ·rintro b5 j3 ⟨m3,S,L,b8⟩;have m4:=m3.pushA N v L;refine zN9 (zJ (zR2 a i1 v) ?_);by_cases d3:(i1+1+1 == a.size)=true
     ·rw[if_pos d3];exact zO7 ⟨⟨_,rfl⟩,.inl ⟨_,rfl,m4.finL H d3 na h2⟩⟩
     rw[if_neg d3];have a6:i1+1+1<a.size:=by
      have:¬i1+1+1=a.size:=by simpa using d3
      lia
     have a3:i+j+1<=i1+1+j3:=by lia
     split
     ·exact zO7 ⟨⟨_,rfl⟩,.inr ⟨_,_,_,_,_,_,rfl,m4,a6,S,a3⟩⟩
     ·exact zO7 ⟨⟨_,rfl⟩,_,_,_,_,_,_,rfl,m4,a6,S,a3⟩
    ·rintro M j1 ⟨m2,u,lk,L,b3,a4⟩ b7 key;have m3:=m2.extB H (k:=V) lk λx X y hy=>z07 (b3 x X) (wz N v y hy);by_cases O:(j1+V == b.size)=true
     ·rw[if_pos O];exact zO7 ⟨⟨_,rfl⟩,.inl ⟨_,rfl,m3.finB N O⟩⟩
     rw[if_neg O];have S:j1+V<b.size:=by
      have:¬j1+V=b.size:=by simpa using O
      lia
     exact key _ _ ⟨m3,S,L,by lia⟩
   ·rintro out e ⟨m,hi,lk,B,T,F⟩ b6 key;have m1:=m.extA N (k:=G) lk λx X y hy=>z07 (T x X) (wz H l y hy);by_cases d4:(e+G+1 == a.size)=true
    ·rw[if_pos d4];exact zO7 ⟨⟨_,rfl⟩,.inl ⟨_,rfl,m1.finL H d4 na h2⟩⟩
    rw[if_neg d4];by_cases d5:(e+G == a.size)=true
    ·rw[if_pos d5];exact zO7 ⟨⟨_,rfl⟩,.inl ⟨_,rfl,m1.finA H d5⟩⟩
    rw[if_neg d5];have a0:e+G+1<a.size:=by
     have:¬e+G+1=a.size:=by simpa using d4
     have:¬e+G=a.size:=by simpa using d5
     lia
    exact key _ _ ⟨m1,a0,B,by lia⟩
  ·rintro c st' ⟨⟨g,rfl⟩,f,e,d,mg,ac,D,rfl,m,hi,l,F⟩;exact⟨⟨g,rfl⟩,.inr ⟨_,_,_,_,_,_,rfl,m,hi,l,F⟩⟩
  ·rintro c st' ⟨⟨g,rfl⟩,hc⟩;rcases hc with⟨r,hr,gd⟩|⟨out,e,d,mg,ac,D,rfl,m,hi,l,F⟩
   ·rw[hr];exact zO7 ⟨⟨g,rfl⟩,r,rfl,gd⟩
   ·dsimp only;refine zN9 (z24 ?_);exact zO7 ⟨⟨_,rfl⟩,_,_,_,_,rfl,m,hi,l,by lia⟩
 ·rintro c st' ⟨_,out,i,j,mg,rfl,m,hi,l,b2⟩
  lia
 ·rintro c st' ⟨⟨g,rfl⟩,r,hr,gd⟩;rw[hr];exact zO7 (h r g gd)
end
def mhi :Array Keyed->Array Keyed->StateT SortSt Sem (Array Keyed):=sortPriv% PySem.Builtin.mergeHi
structure MJ (a b L:List Keyed)(n m:Nat):Prop where
 na:n<=a.length
 mb:m<=b.length
 pm:L.Perm (a.drop n++b.drop m)
 up:Up L
 le:∀x∈a.take n++b.take m,∀y∈L,ky x<=ky y
section
variable {a b L:List Keyed}{n m k:Nat}
theorem MJ.doneA (h:MJ a b L 0 m)(d:Up b):Good a b (b.take m++L):=by
 refine⟨?_,zQ7.mpr ⟨d.sublist (zZ1 _ _),h.up,λx c y hy=>h.le x (zO6 _ c) y hy⟩⟩;refine(zS8 _ h.pm).trans ?_;have:(b.take m++(a++b.drop m)).Perm (a++(b.take m++b.drop m)):=by
  rw[<-zQ1,<-zQ1];exact z04 _ zW7
 rwa [zP3]at this
theorem MJ.doneB (h:MJ a b L n 0)(c:Up a):Good a b (a.take n++L):=by
 refine⟨?_,zQ7.mpr ⟨c.sublist (zZ1 _ _),h.up,λx d y hy=>h.le x (zP6 _ d) y hy⟩⟩;refine(zS8 _ h.pm).trans ?_;rw[<-zQ1,zP3];exact List.Perm.refl _
theorem MJ.first (h:MJ a b L n 1)(f:Up a)(hb:0<b.length)(d:∀x∈a,ky b[0]<=ky x):Good a b (b.take 1++a.take n++L):=by
 have e:b.take 1=[b[0]]:=by
  match b,hb with
  |y::ys,_=>rfl
 refine⟨?_,?_⟩
 ·refine(zS8 _ h.pm).trans ?_;have:(b.take 1++a.take n++(a.drop n++b.drop 1)).Perm (a.take n++a.drop n++(b.take 1++b.drop 1)):=by
   rw[zQ1 (a.take n)];rw[<-zQ1 (a.drop n)];refine(z04 _ zW7).trans ?_;rw[zQ1];refine zS8 _ ?_;rw[<-zQ1];exact z04 _ zW7
  rwa [zP3,zP3]at this
 ·refine zQ7.mpr ⟨zQ7.mpr ⟨by rw[e];exact z67 _ _,f.sublist (zZ1 _ _),λx c y hy=>?_⟩,h.up,λx c y hy=>?_⟩
  ·rw[e]at c;rw[zP8.mp c];exact d y (zV1 hy)
  ·refine h.le x ?_ y hy;rcases zP4.mp c with c|c
   ·exact zO6 _ c
   ·exact zP6 _ c
theorem MJ.preA (h:MJ a b L n m)(e:Up a)(hk:k<=n)(j:∀x∈(a.take n).drop k,∀y∈b.take m,ky y<=ky x):MJ a b ((a.take n).drop k++L) k m:=by
 have g:(a.take n).take k=a.take k:=by rw[z92,z39 hk]
 have sp:a.take n=a.take k++(a.take n).drop k:=by rw[<-g,zP3]
 have l:Up (a.take n):=e.sublist (zZ1 _ _);have d:=l;rw[sp]at d;obtain⟨o,i,f⟩:=zQ7.mp d;refine⟨zO0 hk h.na,h.mb,?_,zQ7.mpr ⟨i,h.up,λx c y hy=>h.le x (zP6 _ (zT9 c)) y hy⟩,λx c y hy=>?_⟩
 ·refine(zS8 _ h.pm).trans ?_;have:a.drop k=(a.take n).drop k++a.drop n:=by
   conv=>lhs;rw[<-zP3 n a]
   rw[List.drop_append_of_le_length (by have:=h.na;rw[zP7];lia)]
  rw[this,zQ1]
 ·rcases zP4.mp hy with hy|hy
  ·rcases zP4.mp c with c|c
   ·exact f x c y hy
   ·exact j y hy x c
  ·refine h.le x ?_ y hy;rcases zP4.mp c with c|c
   ·rw[sp];exact zP6 _ (zP6 _ c)
   ·exact zO6 _ c
theorem MJ.preB (h:MJ a b L n m)(i:Up b)(hk:k<=m)(j:∀x∈(b.take m).drop k,∀y∈a.take n,ky y<=ky x):MJ a b ((b.take m).drop k++L) n k:=by
 have f:(b.take m).take k=b.take k:=by rw[z92,z39 hk]
 have sp:b.take m=b.take k++(b.take m).drop k:=by rw[<-f,zP3]
 have d:Up (b.take m):=i.sublist (zZ1 _ _);rw[sp]at d;obtain⟨l,g,e⟩:=zQ7.mp d;refine⟨h.na,zO0 hk h.mb,?_,zQ7.mpr ⟨g,h.up,λx c y hy=>h.le x (zO6 _ (zT9 c)) y hy⟩,λx c y hy=>?_⟩
 ·refine(zS8 _ h.pm).trans ?_;have:b.drop k=(b.take m).drop k++b.drop m:=by
   conv=>lhs;rw[<-zP3 m b]
   rw[List.drop_append_of_le_length (by have:=h.mb;rw[zP7];lia)]
  rw[this,<-zQ1,<-zQ1];exact z04 _ zW7
 ·rcases zP4.mp hy with hy|hy
  ·rcases zP4.mp c with c|c
   ·exact j y hy x c
   ·exact e x c y hy
  ·refine h.le x ?_ y hy;rcases zP4.mp c with c|c
   ·exact zP6 _ c
   ·rw[sp];exact zO6 _ (zP6 _ c)
end
abbrev MB (a b out:Array Keyed)(n m:Nat):Prop:=MJ a.toList b.toList out.toList.reverse n m
section
variable {a b out:Array Keyed}{n m k:Nat}
theorem qO (a:Array Keyed)(n:Nat):(a.extract 0 n).toList=a.toList.take n:=by rw[z51,z23];simp
theorem ve (a:Array Keyed)(k n:Nat):(a.extract k n).toList=(a.toList.take n).drop k:=by rw[z51,z23,List.drop_take]
theorem MB.extA (h:MB a b out n m)(c:Up a.toList)(hk:k<=n)(d:∀x∈(a.toList.take n).drop k,∀y∈b.toList.take m,ky y<=ky x):MB a b (out++(a.extract k n).reverse) k m:=by
 have:=h.preA c hk d;unfold MB
 rwa [zQ6,z25,z32,List.reverse_reverse,ve]
theorem MB.extB (h:MB a b out n m)(c:Up b.toList)(hk:k<=m)(d:∀x∈(b.toList.take m).drop k,∀y∈a.toList.take n,ky y<=ky x):MB a b (out++(b.extract k m).reverse) n k:=by
 have:=h.preB c hk d;unfold MB
 rwa [zQ6,z25,z32,List.reverse_reverse,ve]
theorem qw {a:Array Keyed}{n:Nat}(h:n-1<a.size)(h0:0<n):(a.toList.take n).drop (n-1)=[a[n-1]]:=by
 have:n-(n-1)=1:=by lia
 rw[List.drop_take,this,take1 _ (by simpa using h)];simp
theorem MB.pushA (h:MB a b out n m)(c:Up a.toList)(h0:0<n)(hn:n-1<a.size)(d:∀y∈b.toList.take m,ky y<=ky a[n-1]):MB a b (out.push a[n-1]) (n-1) m:=by
 have e:=qw hn h0;have:=h.preA (k:=n-1) c (by lia) (by rw[e];intro x f;rw[zP8.mp f];exact d);unfold MB;rw[e]at this
 rwa [zZ6,z32]
theorem MB.pushB (h:MB a b out n m)(c:Up b.toList)(h0:0<m)(hm:m-1<b.size)(d:∀y∈a.toList.take n,ky y<=ky b[m-1]):MB a b (out.push b[m-1]) n (m-1):=by
 have e:=qw hm h0;have:=h.preB (k:=m-1) c (by lia) (by rw[e];intro x f;rw[zP8.mp f];exact d);unfold MB;rw[e]at this
 rwa [zZ6,z32]
theorem MB.finA (h:MB a b out n m)(d:Up b.toList)(e:(n == 0)=true):Good a.toList b.toList (a.extract 0 n++b.extract 0 m++out.reverse).toList:=by
 have c:n=0:=by simpa using e
 subst c;rw[zQ6,zQ6,qO,qO,z25];exact h.doneA d
theorem MB.finB (h:MB a b out n m)(d:Up a.toList)(e:(m == 0)=true):Good a.toList b.toList (a.extract 0 n++b.extract 0 m++out.reverse).toList:=by
 have c:m=0:=by simpa using e
 subst c;rw[zQ6,zQ6,qO,qO,z25,List.take_zero,zU0];exact h.doneB d
theorem MB.finF (h:MB a b out n m)(f:Up a.toList)(e:(m == 1)=true)(hb:0<b.size)(c:∀x∈a.toList,ky b[0]<=ky x):Good a.toList b.toList (b.extract 0 m++a.extract 0 n++out.reverse).toList:=by
 have d:m=1:=by simpa using e
 subst d;rw[zQ6,zQ6,qO,qO,z25];exact h.first f (by simpa using hb) (by simpa using c)
theorem uS {a:Array Keyed}{P:Int->Prop}{n:Nat}(h:∀t,t<n->t<a.size->P (K a t)):∀x∈a.toList.take n,P (ky x):=λx d=>by
 have:=um (a:=a) (P:=P) (i:=0) (k:=n) (λt _ e c=>h t (by lia) c) x;exact this (by simpa using d)
theorem jF {a:Array Keyed}{P:Int->Prop}{k n:Nat}(h:∀t,k<=t->t<n->t<a.size->P (K a t)):∀x∈(a.toList.take n).drop k,P (ky x):=λx c=>by
 rw[List.drop_take]at c;exact um (a:=a) (P:=P) (i:=k) (k:=n-k) (λt h0 e d=>h t h0 (by lia) d) x c
theorem uj {a:Array Keyed}(u:Up a.toList){n:Nat}(hn:n-1<a.size):∀y∈a.toList.take n,ky y<=ky a[n-1]:=by
 rw[<-wt hn];exact uS (P:=λz=>z<=K a (n-1)) λt c d=>rQ u (by lia) hn
end
section
variable {prog:Program}{w:World}{A:Around}{E:Value->Shared->Prop}{s:Shared}{a₀:Array Keyed}
theorem zv9 {st:SortSt}{a b:Array Keyed}{Q:Array Keyed->SortSt->Prop}(hk:kindOf st=oneType')(ia:IntKeys a)(ib:IntKeys b)(H:Up a.toList)(R:Up b.toList)(na:0<a.size)(nb:0<b.size)
  (h1:∀x∈a.toList,ky b[0]<=ky x) (h2:∀y∈b.toList,ky y<=ky a[a.size-1])
  (h:∀r g,Good a.toList b.toList r.toList->Q r (SG st g)):wpS (model prog w) A E s (mhi a b) Q st:=by
 have m0:MB a b #[a[a.size-1]] (a.size-1) b.size:=by
  have:MB a b #[] a.size b.size:=⟨by simp,by simp,by simp,.nil,λx hx y hy=>by simp at hy⟩;have:=this.pushA H na (by lia) (λy hy=>h2 y (zV1 hy));simpa using this
 refine zN9 (wpS_lift (zW9 ⟨rfl,?_⟩));refine zN9 (zJ (zR2 a (a.size-1) (by lia)) ?_);dsimp only;by_cases c1:(a.size-1 == 0)=true
 ·rw[if_pos c1];exact zO7 (h _ (gallopOf st) (m0.finA R c1))
 rw[if_neg c1];by_cases c2:(b.size == 1)=true
 ·rw[if_pos c2];exact zO7 (h _ (gallopOf st) (m0.finF H c2 nb h1))
 rw[if_neg c2];refine zN9 (wpS_get ?_);have a7:0<a.size-1:=by
  have:¬a.size-1=0:=by simpa using c1
  lia
 have b1:1<b.size:=by
  have:¬b.size=1:=by simpa using c2
  lia
 refine zN9 (zZ0 (zU4 (I:=λx c st'=>(∃g,st'=SG st g)/\∃out n m mg,c=(none,n,m,out,mg)/\MB a b out n m/\0<n/\1<m/\n<a.size/\m<=b.size/\x+1+n+m<=a.size+b.size)
  (Q:=λc st'=>(∃g,st'=SG st g)/\∃r,c.1=some r/\Good a.toList b.toList r.toList) ?_ ?_ ⟨⟨_,rfl⟩,_,_,_,_,rfl,m0,a7,b1,by lia,by lia,by lia⟩) ?_)
 ·clear m0;rintro x c st' _ hx ⟨⟨g,rfl⟩,out,n,m,mg,rfl,m0,hn,hm,Z,u,a9⟩;dsimp only;refine zN9 (zZ0 (zU4 (I:=λx c st'=>st'=SG st g/\∃f e d ac D,c=(none,e,d,f,ac,D)/\MB a b f e d/\0<e/\1<d/\e<a.size/\d<=b.size/\x+e+d<=n+m)
   (Q:=λc st'=>st'=SG st g/\((∃r,c.1=some r/\Good a.toList b.toList r.toList)\/∃f e d ac D,c=(none,e,d,f,ac,D)/\MB a b f e d/\0<e/\1<d/\e<a.size/\d<=b.size/\1+e+d<=n+m)) ?_ ?_ ⟨rfl,out,n,m,0,0,rfl,m0,hn,hm,Z,u,by lia⟩) ?_)
  ·clear m0 Z u hn hm;rintro x c st' _ hx ⟨rfl,out,e,d,ac,D,rfl,m0,hn,hm,i,l,B⟩;dsimp only;have hj:d-1<b.size:=by lia
   have hi:e-1<a.size:=by lia
   obtain⟨t1,e1⟩:=yt ib hj;obtain⟨t2,e2⟩:=yt ia hi;have N:=wt hj;have F:=wt hi;refine zN9 (zJ (zR2 b _ hj) (zN9 (zJ (zR2 a _ hi) (zN9 (jv hk e1 e2 ?_)))));by_cases hw:K b (d-1)<K a (e-1)
   ·rw[zS0 hw];dsimp only;rw[if_pos rfl];refine zN9 (zJ (zR2 a _ hi) ?_);have m1:=m0.pushA H hn hi λy hy=>by have:=uj R hj y hy;lia
    by_cases C:(e-1 == 0)=true
    ·rw[if_pos C];exact zO7 ⟨rfl,.inl ⟨_,rfl,m1.finA R C⟩⟩
    ·rw[if_neg C];have j:0<e-1:=by
                   have:¬e-1=0:=by simpa using C
                   lia
     by_cases S:ac+1≥mg
     ·rw[if_pos S];exact zO7 ⟨rfl,.inr ⟨_,_,_,_,_,rfl,m1,j,hm,by lia,l,by lia⟩⟩
     ·rw[if_neg S];exact zO7 ⟨rfl,_,_,_,_,_,rfl,m1,j,hm,by lia,l,by lia⟩
   ·rw[zQ3 hw];dsimp only;rw[if_neg (by decide)];refine zN9 (zJ (zR2 b _ hj) ?_);have m1:=m0.pushB R (by lia) hj λy hy=>by have:=uj H hi y hy;lia
    by_cases C:(d-1 == 1)=true
    ·rw[if_pos C];exact zO7 ⟨rfl,.inl ⟨_,rfl,m1.finF H C nb h1⟩⟩
    ·rw[if_neg C];have j:1<d-1:=by
                   have:¬d-1=1:=by simpa using C
                   lia
     by_cases S:D+1≥mg
     ·rw[if_pos S];exact zO7 ⟨rfl,.inr ⟨_,_,_,_,_,rfl,m1,hn,j,by lia,by lia,by lia⟩⟩
     ·rw[if_neg S];exact zO7 ⟨rfl,_,_,_,_,_,rfl,m1,hn,j,by lia,by lia,by lia⟩
  ·rintro c st' ⟨rfl,out,e,d,ac,D,rfl,m0,hn,hm,i,l,B⟩;exact⟨rfl,.inr ⟨_,_,_,_,_,rfl,m0,hn,hm,i,l,by lia⟩⟩
  rintro c st' ⟨rfl,hc⟩;rcases hc with⟨r,hr,gd⟩|⟨out,e,d,ac,D,rfl,m0,hn,hm,i,l,B⟩
  ·rw[hr];exact zO7 ⟨⟨g,rfl⟩,r,rfl,gd⟩
  dsimp only;refine zN9 (wpS_lift (zW9 ⟨rfl,?_⟩));refine zN9 (zZ0 (zU4 (I:=λ_ c st'=>(∃g,st'=SG st g)/\∃f e d mg ac D,c=(none,e,d,f,mg,ac,D)/\MB a b f e d/\0<e/\1<d/\e<a.size/\d<=b.size/\1+e+d<=n+m)
   (Q:=λc st'=>(∃g,st'=SG st g)/\((∃r,c.1=some r/\Good a.toList b.toList r.toList)\/∃f e d mg ac D,c=(none,e,d,f,mg,ac,D)/\MB a b f e d/\0<e/\1<d/\e<a.size/\d<=b.size/\1+e+d<=n+m)) ?_ ?_ ⟨⟨g,rfl⟩,out,e,d,mg+1,ac,D,rfl,m0,hn,hm,i,l,B⟩) ?_)
  ·clear m0 hn hm i l B Z u;rintro y c st' _ hy ⟨⟨g,rfl⟩,out,e,d,mg,ac,D,rfl,m0,hn,hm,i,l,B⟩;dsimp only;have u:d-1<b.size:=by lia
   obtain⟨t1,e1⟩:=yt ib u;have a1:=wt u
   revert mg
   refine share (λ_ z=>z) (λ_ z=>z) λmg=>?_;refine zN9 (z24 ?_);refine zN9 (zJ (zR2 b (d-1) u) ?_);refine zN9 (uC hk e1 ia (by lia) (by lia) (xP λp q _ h6 h7=>rQ H h6 (by lia)) λN T=>?_);have M:=T.le;dsimp only;generalize U:e-N=ac1;have H0:MB a b out e d/\0<e/\e<a.size/\(N<=e/\e-N=ac1)/\(∀y∈a.toList.take N,ky y<=ky b[d-1])/\(∀x∈(a.toList.take e).drop N,ky b[d-1]<=ky x)/\1+e+d<=n+m:=
    ⟨m0,hn,i,⟨M,U⟩,uS (P:=λz=>z<=ky b[d-1]) λt h6 h7=>by rw[<-a1];exact uH T (by lia) (by lia),jF (P:=λz=>ky b[d-1]<=z) λt h6 h7 _=>by rw[<-a1];exact uP T (by lia) (by lia),B⟩
   clear m0 hn i B T M U
   revert out e H0
   refine ou (λo n1=>MB a b o n1 d/\0<n1/\n1<a.size/\(∀y∈a.toList.take n1,ky y<=ky b[d-1])/\1+n1+d<=n+m) (λ_ _ z=>z) ?_ ?_ ?_
   ·rintro out e ⟨m0,hn,i,⟨M,U⟩,G,_,B⟩ z;have a3:N=e:=by lia
    subst a3;exact⟨m0,hn,i,G,B⟩
   ·rintro Y n1 ⟨m1,hn,i,G,B⟩;have m2:=m1.pushB R (by lia) u G;refine zN9 (zJ (zR2 b (d-1) u) ?_);by_cases C:(d-1 == 1)=true
    ·rw[if_pos C];exact zO7 ⟨⟨_,rfl⟩,.inl ⟨_,rfl,m2.finF H C nb h1⟩⟩
    rw[if_neg C];have j:1<d-1:=by
     have:¬d-1=1:=by simpa using C
     lia
    have v:n1-1<a.size:=by lia
    obtain⟨t2,e2⟩:=yt ia v;refine zN9 (zJ (zR2 a (n1-1) v) ?_);refine zN9 (uC hk e2 ib (by lia) (by lia) (xP λp q _ h6 h7=>rQ R h6 (by lia)) λF X=>?_);have J:=X.le;have a0:=wt v;dsimp only;generalize W:d-1-F=bc1;have H1:MB a b (Y.push b[d-1]) n1 (d-1)/\1<d-1/\d-1<=b.size/\(F<=d-1/\d-1-F=bc1)/\(∀y∈b.toList.take F,ky y<=ky a[n1-1])/\(∀x∈(b.toList.take (d-1)).drop F,ky a[n1-1]<=ky x)/\1+n1+(d-1)<=n+m:=
     ⟨m2,j,by lia,⟨J,W⟩,uS (P:=λz=>z<=ky a[n1-1]) λt h6 h7=>by rw[<-a0];exact uH X (by lia) (by lia),jF (P:=λz=>ky a[n1-1]<=z) λt h6 h7 _=>by rw[<-a0];exact uP X (by lia) (by lia),by lia⟩
    clear X J m2 j C m1 G B W;generalize Y.push b[d-1]=O at H1 ⊢;generalize d-1=m2 at H1 ⊢
    revert O m2 H1
    refine ou (λo n2=>MB a b o n1 n2/\1<n2/\n2<=b.size/\(∀y∈b.toList.take n2,ky y<=ky a[n1-1])/\1+n1+n2<=n+m) (λ_ _ z=>z) ?_ ?_ ?_
    ·rintro O m2 ⟨mm,j,lb,⟨J,W⟩,L,_,B⟩ z;have a5:F=m2:=by lia
     subst a5;exact⟨mm,j,lb,L,B⟩
    ·rintro b2 m3 ⟨mm,V,lb,L,B⟩;have m4:=mm.pushA H (by lia) v L;refine zN9 (zJ (zR2 a (n1-1) v) ?_);by_cases d3:(n1-1 == 0)=true
     ·rw[if_pos d3];exact zO7 ⟨⟨_,rfl⟩,.inl ⟨_,rfl,m4.finA R d3⟩⟩
     rw[if_neg d3];have a4:0<n1-1:=by
      have:¬n1-1=0:=by simpa using d3
      lia
     have a2:1+(n1-1)+m3<=n+m:=by lia
     split
     ·exact zO7 ⟨⟨_,rfl⟩,.inr ⟨_,_,_,_,_,_,rfl,m4,a4,V,by lia,lb,a2⟩⟩
     ·exact zO7 ⟨⟨_,rfl⟩,_,_,_,_,_,_,rfl,m4,a4,V,by lia,lb,a2⟩
    ·rintro O m2 ⟨mm,j,lb,⟨J,W⟩,L,b0,B⟩ b4 key;have m3:=mm.extB R (k:=F) J λx hx y hy=>z07 (uj H v y hy) (b0 x hx);by_cases S:(F == 1)=true
     ·rw[if_pos S];exact zO7 ⟨⟨_,rfl⟩,.inl ⟨_,rfl,m3.finF H S nb h1⟩⟩
     rw[if_neg S];by_cases d5:(F == 0)=true
     ·rw[if_pos d5];exact zO7 ⟨⟨_,rfl⟩,.inl ⟨_,rfl,m3.finB H d5⟩⟩
     rw[if_neg d5];have V:1<F:=by
      have:¬F=1:=by simpa using S
      have:¬F=0:=by simpa using d5
      lia
     exact key _ _ ⟨m3,V,by lia,L,by lia⟩
   ·rintro out e ⟨m0,hn,i,⟨M,U⟩,G,a8,B⟩ b3 key;have m1:=m0.extA H (k:=N) M λx hx y hy=>z07 (uj R u y hy) (a8 x hx);by_cases d4:(N == 0)=true
    ·rw[if_pos d4];exact zO7 ⟨⟨_,rfl⟩,.inl ⟨_,rfl,m1.finA R d4⟩⟩
    rw[if_neg d4];have a6:0<N:=by
     have:¬N=0:=by simpa using d4
     lia
    exact key _ _ ⟨m1,a6,by lia,G,by lia⟩
  ·rintro c st' ⟨⟨g,rfl⟩,f,e,d,mg,ac,D,rfl,m0,r⟩;exact⟨⟨g,rfl⟩,.inr ⟨_,_,_,_,_,_,rfl,m0,r⟩⟩
  ·rintro c st' ⟨⟨g,rfl⟩,hc⟩;rcases hc with⟨r,hr,gd⟩|⟨out,e,d,mg,ac,D,rfl,m0,hn,hm,i,l,B⟩
   ·rw[hr];exact zO7 ⟨⟨g,rfl⟩,r,rfl,gd⟩
   ·dsimp only;refine zN9 (z24 ?_);exact zO7 ⟨⟨_,rfl⟩,_,_,_,_,rfl,m0,hn,hm,i,l,by lia⟩
 ·rintro c st' ⟨_,out,n,m,mg,rfl,m0,hn,hm,_,_,a9⟩
  lia
 ·rintro c st' ⟨⟨g,rfl⟩,r,hr,gd⟩;rw[hr];exact zO7 (h r g gd)
end
def zU (xs:Array Keyed)(l u:Nat):Prop:=∀i j,l<=i->i<=j->j<u->K xs i<=K xs j
theorem zd4 {M:Model}{A:Around}{E:Value->Shared->Prop}{s:Shared}{σ:Type}{x:σ}{Q:PUnit->σ->Prop}{st:σ}(h:Q ⟨⟩ x):wpS M A E s (set x:StateT σ Sem PUnit) Q st:=by unfold wpS;rw[StateT.run_set];exact zN1 ⟨rfl,h⟩
theorem zj8 (o:Nat):∀(M:List Keyed) (k:Nat) (P Z S:List Keyed) (arr:Array Keyed),arr.toList=P++Z++S->P.length=o+k->Z.length=M.length->
  ((M.zipIdx k).foldl (λa (c:Keyed×Nat)=>a.setIfInBounds (o+c.2) c.1) arr).toList=P++M++S
 |[],k,P,Z,S,arr,h,_,hz=>by
  have:Z=[]:=zX4.mp hz;subst this;exact h
 |p::M,k,P,[],S,arr,h,b,hz=>by cases hz
 |p::M,k,P,z::Z,S,arr,h,b,hz=>by
  rw[List.zipIdx_cons,List.foldl_cons];have:=zj8 o M (k+1) (P++[p]) Z S (arr.setIfInBounds (o+k) p) (by
   rw[Array.toList_setIfInBounds,h,<-b];simp) (by simp;lia) (by simpa using hz)
  rw[this];simp
theorem vH {xs ys:Array Keyed}(h:IntKeys ys)(b:∀p∈xs.toList,p∈ys.toList):IntKeys xs:=λp a=>h p (b p a)
theorem lG (xs:Array Keyed)(P M S:List Keyed)(e:xs.toList=P++M++S){t:Nat}(h:t<M.length):K xs (P.length+t)=ky M[t]:=by
 have a:P.length+t<xs.size:=by
  have:=congrArg List.length e;simp at this;lia
 rw[wt a];have:xs[P.length+t]=xs.toList[P.length+t]'(by simpa using a):=by simp
 rw[this];simp only[e];rw[List.getElem_append_left (by simp;lia),List.getElem_append_right (by lia)];simp
theorem zF5 {xs ys:Array Keyed}{P M Z S:List Keyed}(e:xs.toList=P++M++S)(f:ys.toList=P++Z++S)(hz:M.length=Z.length){t:Nat}(h:t<P.length\/P.length+M.length<=t):K xs t=K ys t:=by
 refine K_congr ?_;rw[<-zY1,<-zY1,e,f];rcases h with h|h
 ·rw[zQ1,zQ1,zT7 h,zT7 h]
 ·rw[zW0 (by simp;lia),zW0 (by simp;lia)];simp only[zQ5,hz]
section
variable {prog:Program}{w:World}{A:Around}{E:Value->Shared->Prop}{s:Shared}
theorem fi {xs:Array Keyed}{l u:Nat}(h:zU xs l u)(c:u<=xs.size):Up (xs.extract l u).toList:=by
 refine zV4.mpr λi j hi a b=>?_;simp at hi a;have:=h (l+i) (l+j) (by lia) (by lia) (by lia);rw[wt (show l+i<xs.size by lia),wt (show l+j<xs.size by lia)]at this;simpa using this
theorem ext_mem {xs:Array Keyed}{l u:Nat}(b:u<=xs.size){e:Keyed}(h:e∈(xs.extract l u).toList):∃t,l<=t/\t<u/\ky e=K xs t:=by
 obtain⟨t,a,rfl⟩:=zT8.mp h;simp at a;refine⟨l+t,by lia,by lia,?_⟩;rw[wt (show l+t<xs.size by lia)];simp
theorem cV {xs:Array Keyed}{l u t:Nat}(a:u<=xs.size)(h:t<(xs.extract l u).size):ky (xs.extract l u)[t]=K xs (l+t):=by
 have h':l+t<xs.size:=by simp at h;lia
 rw[wt h'];simp
theorem lO {st:SortSt}{i sa na pw sb nb G:Nat}{Q:Bool->SortSt->Prop}(hk:kindOf st=oneType')(hf:failedOf st=none)(B:IntKeys (arrOf st))
  (e1:(pendingOf st)[i]?=some (sa,na,pw)) (e2:(pendingOf st)[i+1]?=some (sb,nb,G)) (a4:sa+na=sb) (V:0<na) (a3:0<nb) (a6:sb+nb<=(arrOf st).size)
  (x:zU (arrOf st) sa sb) (z:zU (arrOf st) sb (sb+nb))
  (h:∀b g,b.Perm (arrOf st)->(∀t,t<sa\/sb+nb<=t->K b t=K (arrOf st) t)->zU b sa (sb+nb)->
   Q true (SortSt.mk' (kindOf st) b (((pendingOf st).setIfInBounds i (sa,na+nb,pw)).eraseIdxIfInBounds (i+1)) g (failedOf st))):
  wpS (model prog w) A E s (mergeAt' i) Q st:=by
 refine zN9 (wpS_get ?_);rw[show(pendingOf st)[i]?=some (sa,na,pw)from e1];rw[show(pendingOf st)[i+1]?=some (sb,nb,G)from e2];dsimp only;refine zN9 (zd4 ?_);have m:∀p,kindOf (setPending st p)=oneType':=λ_=>hk;have H:sb<(arrOf st).size:=by lia
 obtain⟨t1,f1⟩:=yt B H;refine zN9 (zJ (zR2 (arrOf st) sb H) ?_);refine zN9 (uC (m _) f1 B (show sa+na<=(arrOf st).size by lia) V (xP λp q c j o=>x p q c j (by lia)) λk ct=>?_);have a5:=ct.le;dsimp only;have v:∀t,sa<=t->t<sa+k->∀q,sb<=q->q<sb+nb->K (arrOf st) t<=K (arrOf st) q:=λt d f q c j=>z07 (uH ct d f) (z sb q (by lia) c j);have y:∀t,sa+k<=t->t<sb->K (arrOf st) sb<=K (arrOf st) t:=λt d f=>uP ct d (by lia);by_cases N:(na-k == 0)=true
 ·rw[if_pos N];have T:na-k=0:=by simpa using N
  refine zO7 (h (arrOf st) (gallopOf st) (zX7 _) (λ_ _=>rfl) λp q d f c=>?_);by_cases L:q<sb
  ·exact x p q d f L
  ·by_cases O:p<sb
   ·exact v p d (by lia) q (by lia) c
   ·exact z p q (by lia) f c
 rw[if_neg N];have T:k<na:=by
  have:¬na-k=0:=by simpa using N
  lia
 have D:sa+k+(na-k)-1<(arrOf st).size:=by lia
 obtain⟨t2,f2⟩:=yt B D;refine zN9 (zJ (zR2 (arrOf st) _ D) ?_);refine zN9 (uC (m _) f2 B (show sb+nb<=(arrOf st).size by lia) (by lia) (xP λp q c j o=>z p q c j (by lia)) λn2 n=>?_);have a0:=n.le;have W:sa+k+(na-k)-1=sb-1:=by lia
 rw[W]at n;dsimp only;have I:∀t,sb<=t->t<sb+n2->K (arrOf st) t<=K (arrOf st) (sb-1):=λt d f=>uH n d f;have l:∀q,sb+n2<=q->q<sb+nb->∀t,sa<=t->t<sb->K (arrOf st) t<=K (arrOf st) q:=λq c j t d f=>z07 (x t (sb-1) d (by lia) (by lia)) (uP n c j);by_cases M:(n2 == 0)=true
 ·rw[if_pos M];have X:n2=0:=by simpa using M
  refine zO7 (h (arrOf st) (gallopOf st) (zX7 _) (λ_ _=>rfl) λp q d f c=>?_);by_cases L:q<sb
  ·exact x p q d f L
  ·by_cases O:p<sb
   ·exact l q (by lia) c p d O
   ·exact z p q (by lia) f c
 rw[if_neg M];have X:0<n2:=by
  have:¬n2=0:=by simpa using M
  lia
 have ix:IntKeys ((arrOf st).extract (sa+k) sb):=vH B λp C=>by
  rw[ve]at C;exact zV1 (zT9 C)
 have iy:IntKeys ((arrOf st).extract sb (sb+n2)):=vH B λp C=>by
  rw[ve]at C;exact zV1 (zT9 C)
 have ux:Up ((arrOf st).extract (sa+k) sb).toList:=fi (λp q d f c=>x p q (by lia) f c) (by lia);have Z:Up ((arrOf st).extract sb (sb+n2)).toList:=fi (λp q d f c=>z p q d f (by lia)) (by lia);have sx:((arrOf st).extract (sa+k) sb).size=na-k:=by simp;lia
 have sy:((arrOf st).extract sb (sb+n2)).size=n2:=by simp;lia
 have px:0<((arrOf st).extract (sa+k) sb).size:=by lia
 have py:0<((arrOf st).extract sb (sb+n2)).size:=by lia
 have q1:∀e∈((arrOf st).extract (sa+k) sb).toList,ky (((arrOf st).extract sb (sb+n2))[0]'(by lia))<=ky e:=λe he=>by
  obtain⟨t,d,f,c⟩:=ext_mem (by lia) he;rw[c,cV (by lia)];exact y t d f
 have q2:∀e∈((arrOf st).extract sb (sb+n2)).toList,ky e<=ky (((arrOf st).extract (sa+k) sb)[((arrOf st).extract (sa+k) sb).size-1]'(by lia)):=λe he=>by
  obtain⟨t,d,f,c⟩:=ext_mem (by lia) he;rw[c,cV (by lia),sx,show sa+k+(na-k-1)=sb-1 by lia];exact I t d f
 have fin:∀{st':SortSt} (r:Array Keyed) (g:Nat),Good ((arrOf st).extract (sa+k) sb).toList ((arrOf st).extract sb (sb+n2)).toList r.toList->
   ∃b:Array Keyed,(r.toList.zipIdx.foldl (λa (J:Keyed×Nat)=>a.setIfInBounds (sa+k+J.2) J.1) (arrOf st))=b/\b.Perm (arrOf st)/\(∀t,t<sa\/sb+nb<=t->K b t=K (arrOf st) t)/\zU b sa (sb+nb):=λ{st'} r g gd=>by
  refine⟨_,rfl,?_⟩;have lr:r.toList.length=na-k+n2:=by rw[gd.pm.length_eq,zQ5,zU5,zU5,sx,sy]
  have sp:(arrOf st).toList=(arrOf st).toList.take (sa+k)++(((arrOf st).extract (sa+k) sb).toList++((arrOf st).extract sb (sb+n2)).toList)++(arrOf st).toList.drop (sb+n2):=by
   rw[ve,ve];have a1:(arrOf st).toList.take (sa+k)++((arrOf st).toList.take sb).drop (sa+k)=(arrOf st).toList.take sb:=by
    have:=zP3 (sa+k) ((arrOf st).toList.take sb)
    rwa [z92,z39 (by lia)]at this
   have a2:(arrOf st).toList.take sb++((arrOf st).toList.take (sb+n2)).drop sb=(arrOf st).toList.take (sb+n2):=by
    have:=zP3 sb ((arrOf st).toList.take (sb+n2))
    rwa [z92,z39 (by lia)]at this
   rw[<-zQ1,a1,a2,zP3]
  have F:((arrOf st).toList.take (sa+k)).length=sa+k:=by simp;lia
  have lZ:(((arrOf st).extract (sa+k) sb).toList++((arrOf st).extract sb (sb+n2)).toList).length=r.toList.length:=by rw[gd.pm.length_eq]
  have wr:=zj8 (sa+k) r.toList 0 _ _ _ (arrOf st) sp (by rw[F];rfl) lZ;generalize r.toList.zipIdx.foldl (λa (J:Keyed×Nat)=>a.setIfInBounds (sa+k+J.2) J.1) (arrOf st)=b at wr;have u:∀t,t<sa+k\/sb+n2<=t->K b t=K (arrOf st) t:=λt ht=>zF5 wr sp lZ.symm (by rw[F];lia);have km:∀t,sa+k<=t->t<sb+n2->∃q,sa+k<=q/\q<sb+n2/\K b t=K (arrOf st) q:=λt d f=>by
   have:=lG b _ _ _ wr (t:=t-(sa+k)) (by lia);rw[F,show sa+k+(t-(sa+k))=t by lia]at this;have hm:=gd.pm.mem_iff.mp (zS7 (show t-(sa+k)<r.toList.length by lia));rcases zP4.mp hm with hm|hm
   ·obtain⟨q,c,j,o⟩:=ext_mem (by lia) hm;exact⟨q,c,by lia,by rw[this];exact o⟩
   ·obtain⟨q,c,j,o⟩:=ext_mem (by lia) hm;exact⟨q,by lia,j,by rw[this];exact o⟩
  refine⟨?_,λt ht=>u t (by lia),λp q d f c=>?_⟩
  ·rw[z53,wr];refine List.Perm.trans ?_ (List.Perm.of_eq sp.symm);exact z04 _ (zS8 _ gd.pm)
  ·by_cases L:q<sa+k
   ·rw[u p (by lia),u q (by lia)];exact x p q d f (by lia)
   by_cases O:sb+n2<=p
   ·rw[u p (by lia),u q (by lia)];exact z p q (by lia) f c
   by_cases c3:p<sa+k
   ·rw[u p (by lia)];have g1:∀t,sa+k<=t->t<sb+nb->K (arrOf st) p<=K (arrOf st) t:=λt j o=>by
     by_cases U:t<sb
     ·exact x p t d (by lia) U
     ·exact v p d c3 t (by lia) o
    by_cases c5:sb+n2<=q
    ·rw[u q (by lia)];exact g1 q (by lia) c
    ·obtain⟨t,j,o,R⟩:=km q (by lia) (by lia);rw[R];exact g1 t j (by lia)
   ·by_cases c5:sb+n2<=q
    ·rw[u q (by lia)];obtain⟨t,j,o,R⟩:=km p (by lia) (by lia);rw[R];by_cases U:t<sb
     ·exact l q c5 c t (by lia) U
     ·exact z t q (by lia) (by lia) c
    ·have Y:=lG b _ _ _ wr (t:=p-(sa+k)) (by lia);have r2:=lG b _ _ _ wr (t:=q-(sa+k)) (by lia);rw[F,show sa+k+(p-(sa+k))=p by lia]at Y;rw[F,show sa+k+(q-(sa+k))=q by lia]at r2;rw[Y,r2];by_cases c6:p=q
     ·subst c6;exact zV3 _
     ·exact zV4.mp gd.up _ _ _ _ (by lia)
 split
 ·refine zN9 (zw2 (m _) ix iy ux Z px py q1 q2 λr g gd=>?_);obtain⟨b,S,g1,g2,g3⟩:=fin (st':=st) r g gd;refine zN9 (z24 (zN9 (wpS_get (zO7 ?_))));have:=h b g g1 g2 g3;subst S;have P:(failedOf st).isNone=true:=by rw[hf];rfl
  rw[<-P]at this;exact this
 ·refine zN9 (zv9 (m _) ix iy ux Z px py q1 q2 λr g gd=>?_);obtain⟨b,S,g1,g2,g3⟩:=fin (st':=st) r g gd;refine zN9 (z24 (zN9 (wpS_get (zO7 ?_))));have:=h b g g1 g2 g3;subst S;have P:(failedOf st).isNone=true:=by rw[hf];rfl
  rw[<-P]at this;exact this
end
def wQ (xs:Array Keyed)(l u:Nat):Prop:=∀i j,l<=i->i<=j->j<u->K xs j<=K xs i
structure zt (lo:Nat)(xs ys:Array Keyed):Prop where
 perm:xs.Perm ys
 low:∀t,t<lo->K xs t=K ys t
theorem zt.refl (lo:Nat)(xs:Array Keyed):zt lo xs xs:=⟨zX7 _,λ_ _=>rfl⟩
theorem zt.trans {lo:Nat}{xs ys zs:Array Keyed}(h:zt lo xs ys)(g:zt lo ys zs):zt lo xs zs:=⟨h.perm.trans g.perm,λt a=>(h.low t a).trans (g.low t a)⟩
theorem zt.mirror {lo i j:Nat}{xs:Array Keyed}(hi:lo<=i)(a:j<=xs.size):zt lo (PyProof.Rows.mirror xs i j ((j-i) / 2)) xs:=⟨mirror_perm _ _ _ _,λt b=>by rw[K_mirror a,if_neg (by lia)]⟩
theorem yu {xs ys:Array Keyed}(h:IntKeys ys)(a:xs.Perm ys):IntKeys xs:=vH h λp=>(z53.mp a).mem_iff.mp
theorem zU.more {xs:Array Keyed}{lo n:Nat}(h:zU xs lo (lo+n))(e:1<=n)(hn:¬K xs (lo+n)<K xs (lo+n-1)):zU xs lo (lo+(n+1)):=λi j a d f=>by
 by_cases c:j<lo+n
 ·exact h i j a d c
 ·have:j=lo+n:=by lia
  subst this;by_cases b:i=lo+n
  ·subst b;exact zV3 _
  ·exact z07 (h i (lo+n-1) a (by lia) (by lia)) (Int.not_lt.mp hn)
theorem wQ.more {xs:Array Keyed}{lo n:Nat}(h:wQ xs lo (lo+n))(e:1<=n)(hn:K xs (lo+n)<=K xs (lo+n-1)):wQ xs lo (lo+(n+1)):=λi j a d f=>by
 by_cases c:j<lo+n
 ·exact h i j a d c
 ·have:j=lo+n:=by lia
  subst this;by_cases b:i=lo+n
  ·subst b;exact zV3 _
  ·exact z07 hn (h i (lo+n-1) a (by lia) (by lia))
theorem wQ.flip {xs:Array Keyed}{lo n:Nat}(h:wQ xs lo (lo+n))(hn:lo+n<=xs.size):zU (PyProof.Rows.mirror xs lo (lo+n) ((lo+n-lo) / 2)) lo (lo+n):=λi j a b c=>by
 rw[K_mirror hn,K_mirror hn,if_pos (by lia),if_pos (by lia)];exact h _ _ (by lia) (by lia) (by lia)
section
variable {prog:Program}{w:World}{A:Around}{E:Value->Shared->Prop}{s:Shared}
theorem ltK {st:SortSt}{i j:Nat}{Q:Option Bool->SortSt->Prop}(hk:kindOf st=oneType')(a:IntKeys (arrOf st))(hi:i<(arrOf st).size)(b:j<(arrOf st).size)
  (h:Q (some (decide (K (arrOf st) i<K (arrOf st) j))) st):wpS (model prog w) A E s (ltAt' i j) Q st:=by
 obtain⟨t,e1⟩:=yt a hi;obtain⟨u,c⟩:=yt a b;have f1:(arrOf st)[i]?=some (.int (K (arrOf st) i) t,(arrOf st)[i].2):=by rw[zR2 (arrOf st) i hi,<-e1]
 have f2:(arrOf st)[j]?=some (.int (K (arrOf st) j) u,(arrOf st)[j].2):=by rw[zR2 (arrOf st) j b,<-c]
 exact wpS_ltAt hk f1 f2 h
theorem uF {st:SortSt}{lo a nrem:Nat}{Q:AscSt->SortSt->Prop}{f:Nat->AscSt->StateT SortSt Sem (ForInStep AscSt)}(hf:∀x n,∃g,f x (none,n)=ltAt' (lo+n) (lo+n-1) >>= g/\g (some true)=pure (.done (none,n))/\g (some false)=pure (.yield (none,n+1)))
  (hk:kindOf st=oneType') (k:IntKeys (arrOf st)) (hn:lo+nrem<=(arrOf st).size) (ha:1<=a) (j:a<=nrem) (l:zU (arrOf st) lo (lo+a))
  (h:∀n,a<=n->n<=nrem->zU (arrOf st) lo (lo+n)->(n=nrem\/K (arrOf st) (lo+n)<K (arrOf st) (lo+n-1))->Q (none,n) st):wpS (model prog w) A E s (forIn [a:nrem] ((none,a):AscSt) f) Q st:=by
 refine zU4 (I:=λx c st'=>st'=st/\c=(none,x)/\zU (arrOf st) lo (lo+x)) ?_ ?_ ⟨rfl,rfl,l⟩
 ·rintro x c st' i m ⟨rfl,rfl,b⟩;obtain⟨g,e,g1,g2⟩:=hf x x;rw[e];refine zN9 (ltK hk k (by lia) (by lia) ?_);by_cases d:K (arrOf st') (lo+x)<K (arrOf st') (lo+x-1)
  ·rw[zS0 d,g1];exact zO7 (h x i (by lia) b (.inr d))
  ·rw[zQ3 d,g2];exact zO7 ⟨rfl,rfl,b.more (by lia) d⟩
 ·rintro c st' ⟨rfl,rfl,b⟩;rw[show max a nrem=nrem by lia]at b ⊢;exact h nrem j (zN5 _) b (.inl rfl)
theorem bZ {β:Type}{c:Prop}[Decidable c]{X Y:StateT SortSt Sem β}{Q:β->SortSt->Prop}{st:SortSt}(R:Array Keyed->Prop)(hr:¬c->R (arrOf st))(key:∀arr,R arr->wpS (model prog w) A E s Y Q (setArr st arr))(a:c->(∀arr,R arr->wpS (model prog w) A E s Y Q (setArr st arr))->wpS (model prog w) A E s X Q st):wpS (model prog w) A E s (if c then X else Y) Q st:=by
 split
 ·rename_i h;exact a h key
 ·rename_i h;exact key _ (hr h)
theorem nC {st:SortSt}{lo nrem:Nat}{Q:Option Nat->SortSt->Prop}(hk:kindOf st=oneType')(J:IntKeys (arrOf st))(U:1<=nrem)(hn:lo+nrem<=(arrOf st).size)
  (h:∀m arr,1<=m->m<=nrem->zt lo arr (arrOf st)->zU arr lo (lo+m)->Q (some m) (setArr st arr)):wpS (model prog w) A E s (countRun' lo nrem) Q st:=by
 refine zN9 (uF (λx n=>⟨_,rfl,rfl,rfl⟩) hk J hn (zN5 1) U (λi j b g v=>by
                                                       have:i=j:=by lia
                                                       subst this;exact zV3 _) λn H D r N=>?_)
 dsimp only;by_cases B:(n == nrem)=true
 ·rw[if_pos B];exact zO7 (h n (arrOf st) H D (zt.refl _ _) r)
 rw[if_neg B];have C:¬n=nrem:=by simpa using B
 have F:=N.resolve_left C;refine bZ (λd=>zt lo d (arrOf st)/\wQ d lo (lo+(n+1))) (λT=>?_) (λd z=>?_) (λT key=>?_)
 ·have e:n=1:=by lia
  exact⟨zt.refl lo (arrOf st),wQ.more (λi j b g v=>by
   have:i=j:=by lia
   subst this;exact zV3 _) (by lia) (z06 F)⟩
 ·obtain⟨O,M⟩:=z;refine zN9 (wpS_lift (zW9 ⟨rfl,?_⟩));refine zN9 (zZ0 (zU4 (I:=λx c st'=>∃arr a,st'=setArr st arr/\c=(none,x,a)/\zt lo arr (arrOf st)/\wQ arr lo (lo+x)/\a+1<=x/\∀i,lo+x-(a+1)<=i->i<lo+x->K arr i=K arr (lo+x-1))
   (Q:=λc st'=>∃arr m a,st'=setArr st arr/\c=(none,m,a)/\zt lo arr (arrOf st)/\n+1<=m/\m<=nrem/\wQ arr lo (lo+m)/\a+1<=m/\∀i,lo+m-(a+1)<=i->i<lo+m->K arr i=K arr (lo+m-1)) ?_ ?_ ⟨d,0,rfl,rfl,O,M,by lia,λi b g=>by congr 1;lia⟩) ?_)
  ·rintro x c st' P V ⟨arr,a,rfl,rfl,u,hd,hq,he⟩;dsimp only;have sz:=u.perm.size_eq;have G:=yu J u.perm;refine zN9 (ltK (st:=setArr st arr) hk G (show _<arr.size by lia) (show _<arr.size by lia) ?_);by_cases L:K arr (lo+x)<K arr (lo+x-1)
   ·rw[show decide (K (arrOf (setArr st arr)) (lo+x)<K (arrOf (setArr st arr)) (lo+x-1))=true from zS0 L];dsimp only;rw[if_pos rfl];by_cases hz:a > 0
    ·rw[if_pos hz];refine zN9 (wpS_reverse ?_);have q:=K_mirror_equal (show lo+x<=arr.size by lia) he;refine zO7 ⟨_,0,rfl,rfl,(zt.mirror (by lia) (show lo+x<=arr.size by lia)).trans u,?_,by lia,λi b g=>by congr 1;lia⟩;intro i j b g v;show K (mirror arr _ _ _) j<=K (mirror arr _ _ _) i;rw[q,q];exact hd.more (by lia) (z06 L) i j b g v
    ·rw[if_neg hz];exact zO7 ⟨_,0,rfl,rfl,u,hd.more (by lia) (z06 L),by lia,λi b g=>by congr 1;lia⟩
   ·rw[show decide (K (arrOf (setArr st arr)) (lo+x)<K (arrOf (setArr st arr)) (lo+x-1))=false from zQ3 L];dsimp only;rw[if_neg (by decide)];refine zN9 (ltK (st:=setArr st arr) hk G (show _<arr.size by lia) (show _<arr.size by lia) ?_);by_cases hg:K arr (lo+x-1)<K arr (lo+x)
    ·rw[show decide (K (arrOf (setArr st arr)) (lo+x-1)<K (arrOf (setArr st arr)) (lo+x))=true from zS0 hg];exact zO7 ⟨arr,x,a,rfl,rfl,u,P,by lia,hd,hq,he⟩
    ·rw[show decide (K (arrOf (setArr st arr)) (lo+x-1)<K (arrOf (setArr st arr)) (lo+x))=false from zQ3 hg];refine zO7 ⟨arr,a+1,rfl,rfl,u,hd.more (by lia) (by lia),by lia,λi b g=>?_⟩;rw[show lo+(x+1)-1=lo+x by lia];by_cases c:i=lo+x
     ·subst c;rfl
     ·rw[he i (by lia) (by lia)];lia
  ·rintro c st' ⟨arr,a,rfl,rfl,u,hd,hq,he⟩;rw[show max (n+1) nrem=nrem by lia]at hd hq he ⊢;exact⟨arr,nrem,a,rfl,rfl,u,by lia,zN5 _,hd,hq,he⟩
  ·rintro c st' ⟨arr,m,a,rfl,rfl,l,X,S,t,hq,he⟩;dsimp only;have sz:=l.perm.size_eq;refine bZ (st:=setArr st arr) (λf=>zt lo f (arrOf st)/\wQ f lo (lo+m)) (λ_=>⟨l,t⟩) (λf z=>?_) (λhz key=>?_)
   ·obtain⟨l,t⟩:=z;have W:=l.perm.size_eq;refine zN9 (wpS_reverse ?_);have y:=(zt.mirror (lo:=lo) (i:=lo) (j:=lo+m) (xs:=f) (zN5 _) (by lia)).trans l;have R:=y.perm.size_eq;refine zN9 (uF (st:=setArr st _) (λx n=>⟨_,rfl,rfl,rfl⟩) hk (yu J y.perm) (zO0 hn (zO9 R.symm)) (by lia) S (t.flip (by lia)) λn2 b g v _=>?_);exact zO7 (h n2 _ (by lia) g y v)
   ·refine zN9 (wpS_reverse ?_);have q:=K_mirror_equal (show lo+m<=arr.size by lia) he;refine key _ ⟨(zt.mirror (lo:=lo) (i:=lo+m-(a+1)) (j:=lo+m) (xs:=arr) (by lia) (by lia)).trans l,λi j b g v=>?_⟩;show K (mirror arr _ _ _) j<=K (mirror arr _ _ _) i;rw[q,q];exact t i j b g v
 ·refine zN9 (ltK hk J (by lia) (by lia) ?_);by_cases o:K (arrOf st) lo<K (arrOf st) (lo+n-1)
  ·rw[zS0 o];exact zO7 (h n (arrOf st) H D (zt.refl _ _) r)
  ·rw[zQ3 o];dsimp only;rw[if_neg (by decide)];have p:∀k,lo<=k->k<lo+n->K (arrOf st) k=K (arrOf st) (lo+n-1):=λk b g=>by
    have a1:=r lo k (by lia) b g;have a2:=r k (lo+n-1) b (by lia) (by lia)
    lia
   refine zN9 (wpS_reverse ?_);have q:=K_mirror_equal (show lo+n<=(arrOf st).size by lia) p;refine key _ ⟨zt.mirror (lo:=lo) (i:=lo) (j:=lo+n) (xs:=arrOf st) (zN5 _) (by lia),wQ.more (λi j b g v=>?_) (by lia) ?_⟩
   ·rw[q,q,p i (by lia) (by lia),p j (by lia) (by lia)];exact zV3 _
   ·rw[q,q];exact z06 F
theorem zt.bubble {lo src d:Nat}{xs:Array Keyed}(a:src<xs.size)(hd:lo+d<=src):zt lo (PyProof.Rows.bubble xs src d) xs:=⟨bubble_perm _ _ _,λt b=>by rw[K_bubble a (by lia),if_neg (by lia),if_neg (by lia)]⟩
theorem qp {st:SortSt}{lo n ok:Nat}{Q:Bool->SortSt->Prop}(hk:kindOf st=oneType')(C:IntKeys (arrOf st))(hn:lo+n<=(arrOf st).size)(hok:ok<=n)(F:zU (arrOf st) lo (lo+ok))
  (h:∀arr,zt lo arr (arrOf st)->zU arr lo (lo+n)->Q true (setArr st arr)):wpS (model prog w) A E s (binarySort' lo n ok) Q st:=by
 refine zN9 (zZ0 (zU4 (I:=λk c st'=>c=(none,())/\∃arr,st'=setArr st arr/\zt lo arr (arrOf st)/\zU arr lo (lo+min k n))
  (Q:=λc st'=>c=(none,())/\∃arr,st'=setArr st arr/\zt lo arr (arrOf st)/\zU arr lo (lo+n)) ?_ ?_ ⟨rfl,arrOf st,rfl,zt.refl _ _,λi j p u z=>?_⟩) ?_)
 ·rintro k c st' J H ⟨rfl,arr,rfl,f,b⟩;rw[show min k n=k by lia]at b;have sz:=f.perm.size_eq;have y:=yu C f.perm;refine zN9 (zZ0 (zU4 (I:=λx c a=>a=setArr st arr/\∃l r,c=(none,l,r)/\l<=r/\r<=k/\r-l<=k-x/\
    (∀i,lo<=i->i<lo+l->K arr i<=K arr (lo+k))/\(∀i,lo+r<=i->i<lo+k->K arr (lo+k)<K arr i))
   (Q:=λc a=>a=setArr st arr/\∃l r,c=(none,l,r)/\l<=k/\
    (∀i,lo<=i->i<lo+l->K arr i<=K arr (lo+k))/\(∀i,lo+l<=i->i<lo+k->K arr (lo+k)<K arr i)) ?_ ?_ ⟨rfl,0,k,rfl,by lia,by lia,by lia,λi p u=>by lia,λi p u=>by lia⟩) ?_)
  ·rintro x c a _ L ⟨rfl,l,r,rfl,v,g,hm,d,e⟩;dsimp only;by_cases o:l≥r
   ·rw[if_pos o];have:l=r:=by lia
    subst this;exact zO7 ⟨rfl,l,l,rfl,g,d,e⟩
   ·rw[if_neg o];refine zN9 (ltK (st:=setArr st arr) hk y (show _<arr.size by lia) (show _<arr.size by lia) ?_);by_cases q:K arr (lo+k)<K arr (lo+(l+r) / 2)
    ·rw[show decide (K (arrOf (setArr st arr)) (lo+k)<K (arrOf (setArr st arr)) (lo+(l+r) / 2))=true from zS0 q];exact zO7 ⟨rfl,l,(l+r) / 2,rfl,by lia,by lia,by lia,d,λi t B=>z95 q (b _ _ (by lia) t B)⟩
    ·rw[show decide (K (arrOf (setArr st arr)) (lo+k)<K (arrOf (setArr st arr)) (lo+(l+r) / 2))=false from zQ3 q];exact zO7 ⟨rfl,(l+r) / 2+1,r,rfl,by lia,by lia,by lia,λi t B=>z07 (b i (lo+(l+r) / 2) t (by lia) (by lia)) (Int.not_lt.mp q),e⟩
  ·rintro c a ⟨rfl,l,r,rfl,v,g,hm,d,e⟩;have:l=r:=by lia
   subst this;exact⟨rfl,l,l,rfl,g,d,e⟩
  ·rintro c a ⟨rfl,l,r,rfl,D,d,e⟩;dsimp only;have m:lo+k<arr.size:=by lia
   refine zN9 (z24 (zO7 ⟨rfl,bubble arr (lo+k) (lo+k-(lo+l)),rfl,(zt.bubble m (by lia)).trans f,λi j p u z=>?_⟩));rw[show min (k+1) n=k+1 by lia]at z;rw[K_bubble m (by lia),K_bubble m (by lia),show lo+k-(lo+k-(lo+l))=lo+l by lia]
   repeat' split
   all_goals first
    |(exfalso;lia)
    |exact zV3 _
    |exact d _ (by lia) (by lia)
    |exact z06 (e _ (by lia) (by lia))
    |exact b _ _ (by lia) (by lia) (by lia)
 ·rintro c st' ⟨G,arr,rfl,f,b⟩;rw[show min (max (max ok 1) n) n=n by lia]at b;exact⟨G,arr,rfl,f,b⟩
 ·by_cases t:ok=0
  ·have:i=j:=by lia
   subst this;exact zV3 _
  ·exact F i j p u (by lia)
 ·rintro c st' ⟨rfl,arr,rfl,f,b⟩;exact zO7 (h arr f b)
end
abbrev pQ :=Nat×Nat×Nat
def Runs (xs:Array Keyed):List pQ->Nat->Nat->Prop
 |[],l,u=>l=u
 |r::L,l,u=>r.1=l/\0<r.2.1/\zU xs l (l+r.2.1)/\Runs xs L (l+r.2.1) u
theorem Runs.le {xs:Array Keyed}:∀{L:List pQ}{l u:Nat},Runs xs L l u->l+L.length<=u
 |[],l,u,h=>zO9 h
 |r::L,l,u,⟨_,h0,_,h⟩=>by
  have:=Runs.le h;simp;lia
theorem wB {xs:Array Keyed}:∀{L R:List pQ}{l u:Nat},Runs xs (L++R) l u↔∃m,Runs xs L l m/\Runs xs R m u
 |[],R,l,u=>⟨λh=>⟨l,rfl,h⟩,λ⟨m,d,e⟩=>by cases d;exact e⟩
 |r::L,R,l,u=>⟨λ⟨a,b,c,h⟩=>by
   obtain⟨m,d,e⟩:=wB.mp h;exact⟨m,⟨a,b,c,d⟩,e⟩,λ⟨m,⟨a,b,c,d⟩,e⟩=>⟨a,b,c,wB.mpr ⟨m,d,e⟩⟩⟩
theorem Runs.congr {xs ys:Array Keyed}:∀{L:List pQ}{l u:Nat},Runs xs L l u->(∀t,l<=t->t<u->K ys t=K xs t)->Runs ys L l u
 |[],l,u,h,_=>h
 |r::L,l,u,⟨a,b,c,h⟩,e=>by
  have:=Runs.le h;refine⟨a,b,λi j d f g=>?_,Runs.congr h λt d f=>e t (by lia) f⟩;rw[e i d (by lia),e j (by lia) (by lia)];exact c i j d f g
theorem Runs.pow {xs:Array Keyed}{pw:Nat}:∀{L:List pQ}{l u:Nat} (k:Nat),Runs xs L l u->Runs xs (L.modify k λr=>(r.1,r.2.1,pw)) l u
 |[],l,u,k,h=>by simpa using h
 |r::L,l,u,0,⟨a,b,c,h⟩=>by simp;exact⟨a,b,c,h⟩
 |r::L,l,u,k+1,⟨a,b,c,h⟩=>by simp;exact⟨a,b,c,Runs.pow k h⟩
theorem Runs.all {xs:Array Keyed}:∀{L:List pQ}{u:Nat},Runs xs L 0 u->L.length<=1->zU xs 0 u
 |[],u,h,_=>λi j _ _ a=>by cases h;lia
 |[r],u,⟨_,_,c,h⟩,_=>by cases h;simpa using c
 |_::_::_,_,_,h=>by simp at h
theorem fu (c:Prop)[Decidable c](a:Nat):(if c then a-1 else a)<=a:=by split<;>lia
theorem merged (P R:List pQ)(x y z:pQ)(p:Array pQ)(h:p.toList=P++x::y::R):((p.setIfInBounds P.length z).eraseIdxIfInBounds (P.length+1)).toList=P++z::R:=by
 have e1:(p.setIfInBounds P.length z).toList=P++z::y::R:=by rw[Array.toList_setIfInBounds,h];simp
 have a:P.length+1<(p.setIfInBounds P.length z).size:=by
  have:=congrArg List.length e1;simp at this ⊢;lia
 rw[Array.eraseIdxIfInBounds,dif_pos a,Array.toList_eraseIdx,e1];rw[List.eraseIdx_append_of_length_le (by lia)];simp
section
variable {prog:Program}{w:World}{A:Around}{E:Value->Shared->Prop}{s:Shared}{a₀:Array Keyed}
theorem rB {st:SortSt}{i u:Nat}{Q:Bool->SortSt->Prop}(p:IntKeys a₀)(gb:GB a₀ st)(hr:Runs (arrOf st) (pendingOf st).toList 0 u)(z:u<=a₀.size)(hi:i+1<(pendingOf st).size)
  (h:∀st',GB a₀ st'->Runs (arrOf st') (pendingOf st').toList 0 u->(pendingOf st').size+1=(pendingOf st).size->(∀t,u<=t->K (arrOf st') t=K (arrOf st) t)->Q true st'):wpS (model prog w) A E s (mergeAt' i) Q st:=by
 have k:i+1<(pendingOf st).toList.length:=by simpa using hi
 have sp:(pendingOf st).toList=(pendingOf st).toList.take i++(pendingOf st).toList[i]::(pendingOf st).toList[i+1]::(pendingOf st).toList.drop (i+2):=by rw[<-zR8 k,<-zR8 (by lia),zP3]
 rcases hx:(pendingOf st).toList[i]with⟨sa,na,pw⟩;rcases hy:(pendingOf st).toList[i+1]with⟨sb,nb,d⟩;rw[hx,hy]at sp;have e1:(pendingOf st)[i]?=some (sa,na,pw):=by rw[<-zY1,zN2 (by lia),hx]
 have r:(pendingOf st)[i+1]?=some (sb,nb,d):=by rw[<-zY1,zN2 k,hy]
 have n:((pendingOf st).toList.take i).length=i:=by rw[zP7];lia
 generalize (pendingOf st).toList.take i=P at sp n;generalize (pendingOf st).toList.drop (i+2)=R at sp;rw[sp]at hr;obtain⟨m,l,⟨f1,c,j,f2,b,o,f⟩⟩:=wB.mp hr;dsimp only at f1 f2 c b j o f;subst f1;have:=Runs.le f;have:=Runs.le l;have sz:=gb.perm.size_eq;refine lO gb.kind gb.failed (yu p gb.perm) e1 r f2.symm c b (by lia) (by rw[f2];exact j) (by rw[f2];exact o) λa g g1 g2 g3=>?_;have e:=merged P R _ _ (sa,na+nb,pw) (pendingOf st) sp;rw[n]at e;refine h _ ⟨g1.trans gb.perm,gb.kind,gb.failed⟩ ?_ ?_ λt B=>g2 t (by lia)
 ·show Runs a (((pendingOf st).setIfInBounds i (sa,na+nb,pw)).eraseIdxIfInBounds (i+1)).toList 0 u;rw[e];refine wB.mpr ⟨sa,l.congr λt q y=>g2 t (by lia),rfl,by show 0<na+nb;lia,?_,?_⟩
  ·show zU a sa (sa+(na+nb));rw[<-Nat.add_assoc,<-f2];exact g3
  ·show Runs a R (sa+(na+nb)) u;rw[<-Nat.add_assoc];exact f.congr λt q y=>g2 t (by lia)
 ·show(((pendingOf st).setIfInBounds i (sa,na+nb,pw)).eraseIdxIfInBounds (i+1)).size+1=_;have v:=congrArg List.length e;have x:=congrArg List.length sp;simp only[zU5,zQ5,zQ2]at v x
  lia
structure Mid (a₀:Array Keyed)(lo n:Nat)(st:SortSt):Prop where
 gb:GB a₀ st
 rn:Runs (arrOf st) (pendingOf st).toList 0 lo
 so:zU (arrOf st) lo (lo+n)
theorem Mid.put {lo n:Nat}{st:SortSt}(h:Mid a₀ lo n st)(a:0<n):GB a₀ (setPending st ((pendingOf st).push (lo,n,0)))/\Runs (arrOf st) ((pendingOf st).push (lo,n,0)).toList 0 (lo+n):=by
 refine⟨⟨h.gb.perm,h.gb.kind,h.gb.failed⟩,?_⟩;rw[zZ6];exact wB.mpr ⟨lo,h.rn,rfl,a,h.so,rfl⟩
theorem Mid.pow {lo n k pw:Nat}{st:SortSt}(h:Mid a₀ lo n st):Mid a₀ lo n (setPending st ((pendingOf st).modify k λx=>(x.fst,x.2.fst,pw))):=by
 refine⟨⟨h.gb.perm,h.gb.kind,h.gb.failed⟩,?_,h.so⟩;show Runs (arrOf st) ((pendingOf st).modify k _).toList 0 lo;rw[Array.toList_modify];exact h.rn.pow k
theorem zp1 {β:Type}{b:Nat}{X Y:Nat->StateT SortSt Sem β}{Q:β->SortSt->Prop}{st:SortSt}{a:Nat->Prop}(R:Nat->Array Keyed->Prop)(hr:∀n,a n->¬n<b->R n (arrOf st))(key:∀n arr,R n arr->wpS (model prog w) A E s (Y n) Q (setArr st arr))(d:∀n,a n->n<b->(∀n arr,R n arr->wpS (model prog w) A E s (Y n) Q (setArr st arr))->wpS (model prog w) A E s (X n) Q st):∀n,a n->wpS (model prog w) A E s (if n<b then X n else Y n) Q st:=by
 intro n c;split
 ·rename_i h;exact d n c h key
 ·rename_i h;exact key _ _ (hr n c h)
theorem oR {st:SortSt}{Q:Unit->SortSt->Prop}(C:IntKeys a₀)(u:SBase a₀ st)
  (h:∀st',(arrOf st').Perm a₀->failedOf st'=none->SortedTo (arrOf st') a₀.size->Q () st'):wpS (model prog w) A E s sortRuns' Q st:=by
 rw[sortRuns'_eq];refine zN9 (wpS_get ?_);dsimp only;rw[u.size];generalize T:minRun' a₀.size a₀.size 0=mr;refine zN9 (zZ0 (zU4 (I:=λx c st'=>∃lo,c=(none,lo)/\GB a₀ st'/\Runs (arrOf st') (pendingOf st').toList 0 lo/\lo<=a₀.size/\x<=lo)
  (Q:=λc st'=>c=(none,a₀.size)/\GB a₀ st'/\Runs (arrOf st') (pendingOf st').toList 0 a₀.size) ?_ ?_ ⟨0,rfl,⟨u.perm,u.kind,u.failed⟩,by rw[u.pend];rfl,by lia,by lia⟩) ?_)
 ·rintro x c st' _ R ⟨lo,rfl,gb,hr,P,H⟩;dsimp only;by_cases B:lo≥a₀.size
  ·rw[if_pos B];have:lo=a₀.size:=by lia
   subst this;exact zO7 ⟨rfl,gb,hr⟩
  rw[if_neg B];have sz:=gb.perm.size_eq;refine zN9 (nC gb.kind (yu C gb.perm) (by lia) (show lo+(a₀.size-lo)<=(arrOf st').size by lia) λm arr m1 m2 F so=>?_);dsimp only;have U:=F.perm.size_eq;have d:GB a₀ (setArr st' arr):=⟨F.perm.trans gb.perm,gb.kind,gb.failed⟩;have r:Runs arr (pendingOf st').toList 0 lo:=hr.congr λt _ l=>F.low t l;have H0:0<m/\m<=a₀.size-lo/\zU arr lo (lo+m):=⟨m1,m2,so⟩;clear m1 m2 so
  revert m H0
  refine zp1 (st:=setArr st' arr) (λn L=>Mid a₀ lo n (setArr st' L)/\0<n/\n<=a₀.size-lo) ?_ ?_ ?_
  ·rintro m ⟨m1,m2,so⟩ _;exact⟨⟨d,r,so⟩,m1,m2⟩
  ·rintro n L ⟨b,M,nl⟩;refine zN9 (wpS_get ?_);split
   ·refine zN9 (zZ0 (zU4 (I:=λ_ c a=>c=(none,())/\Mid a₀ lo n a) (Q:=λc a=>c=(none,())/\Mid a₀ lo n a) ?_ ?_ ⟨rfl,b⟩) ?_)
    ·rintro y c a _ _ ⟨rfl,b⟩;refine zN9 (wpS_get ?_);split
     ·rename_i heq;have S:(pendingOf a).size > 1:=by
       by_cases c:(pendingOf a).size > 1
       ·exact c
       ·have e:(if(pendingOf a).size > 1 then(pendingOf a)[(pendingOf a).size-2]? else none)=none:=if_neg c;exact absurd (e.symm.trans heq) (by simp)
      split
      ·exact zO7 ⟨rfl,b⟩
      ·refine zN9 (rB C b.gb b.rn (by lia) (show(pendingOf a).size-2+1<(pendingOf a).size by lia) λK o f _ z=>?_);refine zO7 ⟨rfl,o,f,λi j D l O=>?_⟩;rw[z i D,z j (by lia)];exact b.so i j D l O
     ·exact zO7 ⟨rfl,b⟩
    ·rintro c a q;exact q
    ·rintro c a ⟨rfl,b⟩;dsimp only;refine zN9 (z24 (zN9 (z24 (zO7 ?_))));have:=λpw=>(b.pow (k:=(pendingOf a).size-1) (pw:=pw)).put M;exact⟨_,rfl,(this _).1,(this _).2,by lia,by lia⟩
   ·refine zN9 (z24 (zO7 ?_));have:=b.put M;exact⟨_,rfl,this.1,this.2,by lia,by lia⟩
  ·rintro m ⟨m1,m2,so⟩ N key;refine zN9 (wpS_lift (zW9 ⟨rfl,?_⟩));refine zN9 (qp (st:=setArr st' arr) d.kind (yu C d.perm) (show lo+min (a₀.size-lo) mr<=arr.size by lia) (by lia) so λv p J=>?_);rw[if_neg (by decide)];exact key _ v ⟨⟨⟨p.perm.trans d.perm,gb.kind,gb.failed⟩,r.congr λt _ l=>p.low t l,J⟩,by lia,by lia⟩
 ·rintro c st' ⟨lo,rfl,gb,hr,P,H⟩;have:lo=a₀.size:=by lia
  subst this;exact⟨rfl,gb,hr⟩
 ·rintro c st' ⟨rfl,gb,hr⟩;dsimp only;refine zN9 (zZ0 (zU4 (I:=λx c st'=>c=(none,())/\GB a₀ st'/\Runs (arrOf st') (pendingOf st').toList 0 a₀.size/\(pendingOf st').size<=a₀.size-x)
   (Q:=λc st'=>c=(none,())/\GB a₀ st'/\Runs (arrOf st') (pendingOf st').toList 0 a₀.size/\(pendingOf st').size<=1) ?_ ?_ ⟨rfl,gb,hr,by have:=hr.le;simpa using this⟩) ?_)
  ·rintro x c st' _ R ⟨rfl,gb,hr,g⟩;refine zN9 (wpS_get ?_);by_cases G:(pendingOf st').size<=1
   ·rw[if_pos G];exact zO7 ⟨rfl,gb,hr,G⟩
   ·rw[if_neg G];refine zN9 (rB C gb hr (zN5 _) ?_ λK o f V _=>?_)
    ·exact zP5 (Nat.succ_le_succ (fu _ _)) (show(pendingOf st').size-2+1<(pendingOf st').size by lia)
    ·exact zO7 ⟨rfl,o,f,by lia⟩
  ·rintro c st' ⟨rfl,gb,hr,g⟩;exact⟨rfl,gb,hr,by lia⟩
  ·rintro c st' ⟨rfl,gb,hr,g⟩;dsimp only;exact zO7 (h st' gb.perm gb.failed λi j D l=>hr.all (by simpa using g) i j (zO5 _) D l)
end
open PyProof
section
variable {prog:Program}{w:World}{A:Around}{E:Value->Shared->Prop}{s:Shared}
theorem tree_ok {a:Addr}{vs:List Value}{ns:List Int}{n:Nat}{P:Fin->Shared->Prop}(i:s.heap.get? a=some (seqObj "list" vs.toArray n))(l:IntsAre vs ns)(v:vs.length<=1000)
  (h:∀(out:Array Value) (d:List Int),IntsAre out.toList d->d.Perm ns->d.Pairwise (·<=·)->P (.done (.ret .none)) {s with heap:=sortedHeap s.heap a vs out}):wpAny (model prog w) A (Builtin.«list.sort» ⟨[.ref a],[]⟩) P E s:=by
 by_cases g:vs.length<64
 ·exact list_sort_tree i l g h
 have ha:a<s.heap.objs.size:=zO4 i;obtain⟨e1,k⟩:∃e1,(s.heap.update a (Obj.mapSeq λ_=>#[])).get? a=some (seqObj "list" #[] e1):=⟨_,zY5 i (λ_=>#[])⟩;have j:(((s.heap.update a (Obj.mapSeq λ_=>#[])).push (seqObj "tuple" vs.toArray 0)).push (seqObj "list" #[] 0)).get? a=some (seqObj "list" #[] e1):=by
  have n1:a≠(s.heap.update a (Obj.mapSeq λ_=>#[])).objs.size:=by rw[z75];exact zP1 ha
  have n2:a≠((s.heap.update a (Obj.mapSeq λ_=>#[])).push (seqObj "tuple" vs.toArray 0)).objs.size:=by rw[size_push',z75];exact zP1 (zW3 ha)
  rw[z68 _ _ _ n2,z68 _ _ _ n1,k]
 have f:¬vs.toArray.size<2:=by simp;lia
 obtain⟨b,c,rest,rfl⟩:∃b c rest,vs=b::c::rest:=by
  match vs,g with
  |b::c::rest,_=>exact⟨b,c,rest,rfl⟩
  |[],h=>simp at h
  |[_],h=>simp at h
 rw[list_sort_plain];have u:(b::c::rest).toArray.size<=sizeLine:=by rw[zT1,zO3];lia
 refine zM8 (listItems_at i rfl ?_);refine zM8 (z54 i rfl ?_);refine zM8 (seqEpoch_at k rfl ?_);refine zM8 (z64 ?_);refine zM8 (wpAny_newList ?_);refine zT0 ?_;dsimp only;rw[if_neg f,if_neg f,keyKind_ints l];refine zM8 (zN1 (zM8 (zS9 (oR (a₀:=pairsOf (b::c::rest)) (Q:=λ_ st'=>(arrOf st').Perm (pairsOf (b::c::rest))/\failedOf st'=none/\SortedTo (arrOf st') (pairsOf (b::c::rest)).size)
  l.intKeys ⟨zX7 _,rfl,rfl,rfl⟩ λst' a1 a2 o=>⟨a1,a2,o⟩) ?_ λ_ _ e=>e)))
 rintro⟨⟨⟩,st'⟩ s' ⟨rfl,m,hf,p⟩;obtain⟨d,r,t,q⟩:=sorted_out l m p;refine zM8 (seqEpoch_at j rfl (zM8 (z54 j rfl ?_ (hsz2:=by refine zO0 (zO9 ((Array.size_map ..).trans (m.size_eq.trans (pairsOf_size _)))) ?_;rw[zT1];lia))));rw[hf];simp only[bne_self_eq_false,zY2,z49];exact zN1 (h _ d r t q)
end
end Tim
namespace SetW
open PySem PyProof.Rows
section
variable {prog:Program}{w:World}{A:Around}{E:Value->Shared->Prop}{s:Shared}{a:Addr}{ep:Nat}{o:Obj}{es:Array (Int×Value)}{S:Int->Bool}{m:Nat}{t:SetTable}
theorem oB {F:List Int}{Q:Value->Shared->Prop}(G:A.handled=none)(i:s.heap.get? a=some o)(x:WkO prog w o S m (yV w) es ep t)(hF:F.Nodup)(C:∀k,S k=F.any (· == k))(hm:m=F.length)(y:F.length<=1000)
  (h:∀(h':Heap) d (tk:Nat) (L:Addr) (out:Array Value) (c:Nat) (ns:List Int),s.heap.objs.size<=L->(∀c u,s.heap.get? c=some u->h'.get? c=some u)->h'.get? L=some (seqObj "list" out c)->IntsAre out.toList ns->ns.Perm F->ns.Pairwise (·<=·)->Q (.ref L) {s with heap:=h',drawn:=d,toks:=tk}):
  wpAny (model prog w) A (call (.builtin "sorted") [.ref a]) Q E s:=by
 obtain⟨ms,im,z⟩:=jg (prog:=prog) (w:=w) es.toList x.el.keys;have lm:ms.length=es.size:=by have:=IntsAre.length im;simp at this;lia
 have l:ms.Perm F:=nX hF (λk hk=>(z k).mpr ((x.mem k).mp (by rw[C];exact z77.mpr ⟨k,hk,by simp⟩))) (by rw[lm,x.sz,hm]);refine Calls.call_function_entry kind_sorted plain_sorted entry_sorted (args_sorted1 _) ?_;unfold Builtin.«sorted»;refine zM8 (m:=checkCount "sorted" 1 1 _) (zN1 ?_);refine zM8 (nk (by simp[G]) i x λg d tk ord sz H po=>?_);obtain⟨q,B,D⟩:=gZ po im;have r:ord.length<=1000:=by
  have:=po.length_eq;have:=l.length_eq;simp at *
  lia
 refine zM8 (wpAny_newList ?_);have b:(g.push (seqObj "list" ord.toArray 0)).get? g.objs.size=some (seqObj "list" ord.toArray 0):=zO2 _ rfl;refine zM8 (zT0 (zU2 slot_list_sort ⟨_,b,rfl⟩ entry_list_sort (Tim.tree_ok b B r λout j a1 a2 p=>⟨_,rfl,?_⟩) (args_list_sort _)));obtain⟨e,he⟩:=sortedHeap_at (out:=out) b;refine zN1 ⟨_,rfl,h _ d tk g.objs.size out e j (zR4 sz) (λc u v=>?_) he a1 (a2.trans (D.trans l)) p⟩;have n:=H c u v;have f:=zO4 n;rw[sortedHeap_old (zP1 f) (by rw[size_push'];exact zW3 f)];exact zM9 _ n
end
end SetW
namespace L2
open PySem PySem.Spec PyProof.Rows SetW
section
variable {X:Cx}{α:Ev}{e:Expr}{pos p p2 pos2:Pos}
theorem qj (k:X.calm=true):xl X (.builtin "sorted") (λxs H Q=>∃(l:Addr) (o:Obj) (u:HO) (zs:List Int),xs=[.ref l]/\H l=some (.frz o u)/\SW X.prog X.w o zs/\zs.length<=1000/\∀(b:Addr) (ys:List Int),H b=none->ys.Perm (vn zs)->ys.Pairwise (·<=·)->Q (.ref b) (upd H b (.lst (ys.map V.int)))):=by
 intro pins s σ H xs us Q I r h;obtain⟨l,o,u,zs,rfl,i,⟨es,ep,t,x⟩,m,q⟩:=h;obtain⟨v,rfl,y⟩:=vals1 r;cases y;have n:s.heap.get? l=some o:=(show s.heap.get? l=some o/\_ from I.hok l _ i).1;have lm:(vn zs).length<=zs.length:=firstMet_length_le _ _;refine oB (F:=vn zs) (I.ok.hd k) n x (vh _ _) (λ_=>rfl) rfl (by lia) λh' d tk L out c ns sz kp f a1 a2 g=>?_;have j:=I.laid (a:=L) (o:=.lst (ns.map V.int)) (t':=tk) kp sz ⟨by rw[zN0,a2.length_eq,zT1];lia,out.toList,c,uo a1,by simpa using f⟩;exact⟨.ref L,_,j.drw d,rfl,q _ ns (I.hok.fresh sz) a2 g⟩
theorem tj {Q:List PyData->Prop}(u:X.calm=true)(n:Gl X "sorted")(f:X.mg "sorted"=none)(hg:Gl X "set")(hm:X.mg "set"=none)(h:EvD X α e λx=>∃zs:List Int,x=.list (zs.map .int)/\zs.length<1000/\∀ys:List Int,(∀k,k∈ys↔k∈zs)->ys.Pairwise (·<·)->ys.length<=zs.length->Q (ys.map .int))
  (he:starEach [e] X.env=(false,eval e X.env)::starEach [] X.env:=by rfl) (d:starEach [.Call (.Name "set" p) [e] [] pos] X.env=(false,eval (.Call (.Name "set" p) [e] [] pos) X.env)::starEach [] X.env:=by rfl):
  EvL X α (.Call (.Name "sorted" p2) [.Call (.Name "set" p) [e] [] pos] [] pos2) Q:=λF σ H R m k=>by
 refine⟨_,vX (qj u) n f boot_sorted (zA (wX (iB u) hg hm PyProof.Rows.boot_set (zA zf yh he) (he:=he)) yh d) (he:=d),?_⟩;refine h F σ H _ m λx I H1 C t1 w B=>?_;obtain⟨zs,rfl,D,q⟩:=C;have m1:=m.kz w t1;obtain⟨l,xs,rfl,A,G⟩:=B.lst_inv;have r:=(zi A).2;rw[G.intsV]at r;refine⟨l,zs,rfl,r,by lia,λt o c sw=>?_⟩;have v:=t1.same (zH (o:=.frz o (.set (λk=>(vn zs).any (· == k)) (vn zs).length)) c);have g:=w.trans (Kz.of_same (F:=F) (zH (o:=.frz o (.set (λk=>(vn zs).any (· == k)) (vn zs).length)) c));have m2:=m.kz g v;refine⟨t,o,_,zs,rfl,zm,sw,by lia,λl2 ys i pm pw=>?_⟩;have s:ys.length<=zs.length:=by rw[pm.length_eq];exact firstMet_length_le _ _
 have nd:ys.Nodup:=pm.nodup_iff.mpr (vh _ _);have pl:ys.Pairwise (·<·):=by
  have:=pw.and nd;exact this.imp λ{a b} z=>by lia
 have av:AVs (Gz F α σ (upd H1 t (.frz o (.set (λk=>(vn zs).any (· == k)) (vn zs).length)))) (ys.map V.int) (ys.map .int):=by
  clear pm pw nd pl s
  induction ys with
  |nil=>exact .nil
  |cons y ys E=>exact .cons (.int y) E
 obtain⟨g1,g2,g3⟩:=m2.lay i av;exact k _ _ _ (q ys (λj=>pm.mem_iff.trans zd7) pl s) g1 (g.trans g2) (g3.back m g v)
end
section
variable {X:Cx}{α:Ev}{a b:Expr}{pos:Pos}
end
section
variable {X:Cx}{α:Ev}{e:Expr}{kk:Nat}{p pos:Pos}{rest:List Stmt}{E:yo}
theorem zz8 {F:Fr}{σ:St}{H:Hp}{i:Nat}{c c':PyData}{l:Addr}{o':HO}(hi:α[i]?=some (some (.ow c)))(g:σ[i]?=some (some (.ref l))):zt (Gz F α σ H) (Gz F (α.set i (some (.ow c'))) σ (upd H l o')):=by
 have n:∀{j:Nat} {a:A} {s:Option V},(α.set i (some (.ow c')))[j]?=some (some a)->σ[j]?=some s->(i=j/\a=.ow c'/\s=some (.ref l))\/(i≠j/\α[j]?=some (some a)):=λ{j a s} e1 d=>by
  rcases zR e1 with⟨rfl,z⟩|⟨m,b⟩
  ·cases z;rw[g]at d;cases d;exact .inl ⟨rfl,rfl,rfl⟩
  ·exact .inr ⟨m,b⟩
 have k:∀{y:Addr},Ow F (α.set i (some (.ow c'))) σ y->Ow F α σ y:=λ{y} h=>by
  rcases h with z|⟨j,a,s,e1,d,f⟩
  ·exact .inl z
  ·rcases n e1 d with⟨rfl,rfl,rfl⟩|⟨m,b⟩
   ·exact .inr ⟨i,_,_,hi,g,f⟩
   ·exact .inr ⟨j,a,s,b,d,f⟩
 have ol:Ow F α σ l:=.inr ⟨i,_,_,hi,g,rfl⟩;exact zr λa o h e=>⟨λz=>h (k z),by rw[zj (λz=>h (by rw[z];exact ol))];exact e⟩
theorem zf4 (i:Nat){x:Str}{c f:Expr}{ds:List PyData}{p1 p2 p3 p4:Pos}(hi:α[i]?=some (some (.own ds)))(hc:X.calm=true)
  (h:EvD X α e λd=>∃a b,d=.tuple [a,b]/\EvD X α c λy=>∃k j,y=.int k/\ixN ds.length k=some j/\EvD X (α.set i (some (.own (ds.set j a)))) f λU=>∃n t,U=.int n/\ixN ds.length n=some t/\SvS X (α.set i (some (.own ((ds.set j a).set t b)))) rest E)
  (hN:X.N[i]?=some x:=by rfl) (hv:Vis X.env.scope x:=by first|exact Or.inl rfl|exact Or.inr (Or.inl rfl)|exact Or.inr (Or.inr rfl))
  (W:swapsWithSole [.Tuple [.Subscript (.Name x p1) c p2,.Subscript (.Name x p3) f p4] kk p] e pos.line X.env=pure false:=by rfl) (hw:swappedStores [.Tuple [.Subscript (.Name x p1) c p2,.Subscript (.Name x p3) f p4] kk p] e X.env=pure none:=by rfl)
  (ha:(assignEach [.Tuple [.Subscript (.Name x p1) c p2,.Subscript (.Name x p3) f p4] kk p] X.env).map (·.2)=[assign (.Tuple [.Subscript (.Name x p1) c p2,.Subscript (.Name x p3) f p4] kk p) X.env]:=by rfl)
  (Q:PGs X [.Subscript (.Name x p1) c p2,.Subscript (.Name x p3) f p4] (qQ (za0 (cb i) (vP X c) ja) (qQ (za0 (cb i) (vP X f) ja) aA)):=by exact yb (rj (yw rfl (by first|exact Or.inl rfl|exact Or.inr (Or.inl rfl)|exact Or.inr (Or.inr rfl))) zf set_list) (yb (rj (yw rfl (by first|exact Or.inl rfl|exact Or.inr (Or.inl rfl)|exact Or.inr (Or.inr rfl))) zf set_list) wb))
  (hn:(assignEach [.Subscript (.Name x p1) c p2,.Subscript (.Name x p3) f p4] X.env).length=2:=by rfl) (M:(assignEach [.Subscript (.Name x p1) c p2,.Subscript (.Name x p3) f p4] X.env).findIdx? (·.1)=none:=by rfl):
  SvS X α (.Assign [.Tuple [.Subscript (.Name x p1) c p2,.Subscript (.Name x p3) f p4] kk p] e pos::rest) E:=λF σ H D m r=>by
 obtain⟨l,xs,o,h2,A,V,h5⟩:=m.own i ds hi;refine⟨_,zy (su zf (bj hc Q hn M) W hw ha) zG,?_⟩;refine h F σ H _ m λd v H1 G t1 L Y=>?_;obtain⟨a,b,rfl,G⟩:=G;obtain⟨ad,vs,rfl,g1,g2⟩:=Y.tup_inv;obtain⟨g,s,rfl,B,O⟩:∃g s,vs=[g,s]/\AV _ g a/\AV _ s b:=by
  cases g2 with
  |cons B g2=>cases g2 with
   |cons O g2=>cases g2;exact⟨_,_,rfl,B,O⟩
 have m1:=m.kz L t1;refine⟨ad,[g,s],rfl,SqT.of (zi g1).2,rfl,g,[s],rfl,?_⟩;refine⟨.ref l,o,?_⟩;refine G F σ H1 _ m1 λy vy H2 J t2 n r2=>?_;have m2:=m1.kz n t2;obtain⟨k,j,rfl,hj,J⟩:=J;cases r2.int_inv;have S:=(A.same (L.gz m.tp)).same (n.gz m1.tp);have R:=B.same (n.gz m1.tp);have m3:=m2.wrOwn hi o (S.set R j);refine⟨l,xs,k,j,rfl,rfl,n _ _ (L _ _ h2 (m.tp.nt V)) (m.tp.nt V),by rw[A.length];exact hj,s,[],rfl,?_⟩;have lt:i<α.length:=by
  rcases zS6 i α.length with z|z
  ·exact z
  ·rw[zV6 z]at hi;cases hi
 have u:(α.set i (some (.own (ds.set j a))))[i]?=some (some (.own (ds.set j a))):=zW1 lt;obtain⟨l',T,e1,C,e3,Z,e5⟩:=m3.own i _ u;rw[o]at e1;cases e1;have hl:(xs.set j g).length=ds.length:=by rw[zS5,A.length]
 refine⟨.ref l,o,?_⟩;refine J F σ _ _ m3 λU a0 H3 q3 t3 w r3=>?_;have m4:=m3.kz w t3;obtain⟨I,t,rfl,K,q⟩:=q3;cases r3.int_inv;have ex:T=xs.set j g:=by
  rw[zm]at C;exact(HO.lst.inj (zR0 C)).symm
 subst ex;refine⟨l,xs.set j g,I,t,rfl,rfl,w _ _ C (m3.tp.nt Z),by rw[hl];exact K,rfl,?_⟩;have P:=((O.same (n.gz m1.tp)).same (zz8 (F:=F) (H:=H2) (c':=.list (ds.set j a)) (o':=.lst (xs.set j g)) hi o)).same (w.gz m3.tp);have m5:=m4.wrOwn u o ((e3.same (w.gz m3.tp)).set P t);rw[List.set_set]at m5;exact q F σ _ D m5 r
end
theorem zW.o {N P:List Str}{sc:Scope}(a:sc.kind=.function:=by rfl)(b:sc.isCoroutine=false:=by rfl)(c:sc.isGenerator=false:=by rfl)(e:N.Nodup:=by decide +kernel)(f:N.take P.length=P:=by rfl)(d:∀x∈P,sc.names.lookup x=some .local\/sc.names.lookup x=some .cell:=by decide +kernel)(g:∀y∈sc.names,y.2≠.free:=by decide +kernel):zW N P sc:=⟨a,b,c,e,f,d,g⟩
abbrev Ph :=List A->(A->Prop)->Prop
section
variable {P:Program}{w:World}{K:PySem.W.Frag}{mg:Str->Option Value}{base:Heap}
def FnD (K:PySem.W.Frag)(mg:Str->Option Value)(x:Str)(st:Stmt)(ps:List Str):Prop:=∃f fd,Fun K x x st f fd/\mg x=some (.ref f)/\Binds K fd ps []
theorem yj {x:Str}{st:Stmt}{ps:List Str}{k:Nat}{φ:List A->(A->Prop)->Prop}(N:List Str)(G:FnD K mg x st ps)
  (a:∀(f:Addr) (cdv:Value) (b:Around) (outer:List Env) (s:Shared) (H:Hp) (E:XK) (as:List A) (Q:A->Prop),N.Nodup->zN k (b.deeper (envOfC x (zg st) s.heap.objs.size f cdv))->φ as Q->
   SvS (wx CX0 P w K mg base N x (zg st) f cdv b outer s H E).nox (as.map some++List.replicate (N.length-as.length) none) (zv st) {nx:=λ_=>Q (.dat .none),rt:=Q})
  (S:zW N ps (zg st):=by exact .o) (hlen:∀as Q,φ as Q->as.length=ps.length:=by intro _ _ h;repeat first|(obtain⟨rfl,_⟩:=h;rfl)|obtain⟨_,h⟩:=h):Cal P w K mg base x (k+1) φ:=by
 obtain⟨f,fd,F,hm,hb⟩:=G;exact zJ7 F hm hb S hlen λcdv b outer s H E as Q hr h=>a f cdv b outer s H E as Q S.nd hr h
theorem nj {C f:Addr}{fd:FuncData}{m d:Str}{st:Stmt}{ps:List Str}{k:Nat}{φ:List A->(A->Prop)->Prop}(N:List Str)(c:Cls K C)(e:Meth K C m f)(F:Fun K m d st f fd)(hb:Binds K fd ps [])
  (a:∀(cdv:Value) (b:Around) (outer:List Env) (s:Shared) (H:Hp) (E:XK) (as:List A) (Q:A->Prop),N.Nodup->zN k (b.deeper (envOfC d (zg st) s.heap.objs.size f cdv))->φ as Q->
   SvS (wx CX0 P w K mg base N d (zg st) f cdv b outer s H E).nox (as.map some++List.replicate (N.length-as.length) none) (zv st) {nx:=λ_=>Q (.dat .none),rt:=Q})
  (S:zW N ps (zg st):=by exact .o) (hlen:∀as Q,φ as Q->as.length=ps.length:=by intro _ _ h;repeat first|(obtain⟨rfl,_⟩:=h;rfl)|obtain⟨_,h⟩:=h):xt P w K mg base C m (k+1) φ:=
 ⟨f,fd,ps,c,e,hb,fnA F S hlen λcdv b outer s H E as Q hr h=>a cdv b outer s H E as Q S.nd hr h⟩
end
end L2
set_option maxHeartbeats 4000000
namespace K67
open PySem PySem.Spec PyProof.Rows L2
def top (i:Nat):Stmt:=PySem.Challenge.pw_stayprice_k67_unlike_stays_told.main.body.getD i (.Pass ⟨0,0,0,0⟩)
abbrev aa :Stmt:=top 54
abbrev eN :Stmt:=top 53
def jZ :Ph:=λas Q=>∃c:Int,as=[.dat (.int c)]/\∀x y:Int,0<=y->y<4294967296->Q (.own [.int x,.int y])
section
variable {P:Program}{w:World}{K:PySem.W.Frag}{mg:Str->Option Value}{base:Heap}
theorem mR :zW ["_law_row","_law_base","_law_found","_law_number"] ["_law_row","_law_base"] (zg aa):=.o
theorem ze7 {f:Addr}{fd:FuncData}(F:Fun K "_law_take" "_law_take" aa f fd):yK P w K mg base CX0 1 f fd ["_law_row","_law_base"] fB:=by
 refine F.ok mR (λvs H Q E h=>?_) (λcdv A outer s H vs Q E hr h=>?_)
 ·obtain⟨t,b,c,many,rfl,_⟩:=h;rfl
 ·obtain⟨t,b,c,many,rfl,⟨n,bs,cs,⟨r,D⟩,g,hb,I,⟨x,y,rfl,B,v⟩,hn⟩,d,o,k⟩:=h;rw[r,D]at k;have l:many.natAbs.log2<9000:=log2_small d o;have g:H t=some (.lst [.int x,.int y]):=g;refine sg (λσ p=>σ=[some (.ref t),some (.int many),none,none]/\H=p)
   ⟨_,zi9 (jA zm1 (vA xi (pv 0) yc (λ_ _=>rfl)) yc (yJ _))
    (zy (ph (i:=2) mR.nd rfl (Or.inl rfl) (yW rD (vA xi (pv 0) yc (λ_ _=>rfl)) (pv 1)))
    (zy (su (yW rV (vA xi (pv 0) yc (λ_ _=>rfl)) (pv 1)) (rj (pv 0) yc set_list))
    (tX (sH (pv 2))))) kQ,?_⟩ ?_
  ·refine⟨_,rfl,t,_,0,_,rfl,rfl,SqL.of g,rfl,_,_,rfl,rfl,_,rfl,?_⟩;refine zK0 (λ_=>?_) (λ_=>⟨rfl,rfl⟩);refine⟨_,rfl,t,_,0,_,rfl,rfl,SqL.of g,rfl,_,rfl,_,_,rfl,rfl,d,?_⟩;refine⟨_,rfl,t,_,0,_,rfl,rfl,SqL.of g,rfl,_,rfl,_,_,rfl,rfl,⟨d,l⟩,?_⟩;refine⟨_,rfl,t,_,0,0,rfl,rfl,g,rfl,_,rfl,?_⟩;refine k _ _ (z87 _ (Int.ne_of_gt d)) (z62 _ d) ⟨0,[x / many,y],[x / many,y],⟨rfl,rfl⟩,zm,zm,zm,⟨_,_,rfl,B,v⟩,rfl⟩ λa m J=>by rw[zj m]
  rintro σ p ⟨rfl,rfl⟩;refine sg (λσ H1=>∃z:Int,0<=z/\z<2147483647/\σ=[some (.ref t),some (.int many),none,none]/\H1=upd H t (.lst [.int x,.int z]))
   ⟨_,su (yW rD (yW oq (yW pL (vA xi (pv 0) yc (λ_ _=>rfl)) yc) yc) yc) (rj (pv 0) yc set_list),?_⟩ ?_
  ·refine⟨_,rfl,t,_,1,_,rfl,rfl,SqL.of g,rfl,_,_,rfl,rfl,.inl ⟨by lia,by lia⟩,_,_,rfl,rfl,_,_,rfl,rfl,(by show(0:Int)<2147483647;decide),?_⟩;exact⟨_,rfl,t,_,1,1,rfl,rfl,g,rfl,_,z87 _ (by decide),z62 _ (by decide),rfl,rfl⟩
  rintro σ H1 ⟨z,C,G,rfl,j⟩;have e:H1 t=some (.lst [.int x,.int z]):=by rw[j];exact zm
  have off:zx2 t t H H1:=λa m _=>by rw[j,zj m]
  clear j;refine sg (λσ q=>∃u:Int,σ=[some (.ref t),some (.int many),none,some (.int u)]/\H1=q)
   ⟨_,ph (i:=3) mR.nd rfl (Or.inl rfl) (yW rD (yW oq (yW oq (yW pL (vA xi (pv 0) yc (λ_ _=>rfl)) (vA xi (pv 0) yc (λ_ _=>rfl))) (yW pL yc (vA xi (pv 0) yc (λ_ _=>rfl)))) yc) yc),?_⟩ ?_
  ·exact⟨_,rfl,t,_,1,_,rfl,rfl,SqL.of e,rfl,_,rfl,t,_,1,_,rfl,rfl,SqL.of e,rfl,_,_,rfl,rfl,.inl ⟨by lia,by lia⟩,_,rfl,t,_,1,_,rfl,rfl,SqL.of e,rfl,_,_,rfl,rfl,.inl ⟨by decide,by decide⟩,_,_,rfl,rfl,_,_,rfl,rfl,_,_,rfl,rfl,(by show(0:Int)<2147483629;decide),_,rfl,rfl⟩
  rintro σ q ⟨u,rfl,rfl⟩;refine⟨_,tX (sH (yW rD (yW rV (pv 3) yc) (pv 1))),?_⟩;refine⟨_,rfl,_,_,rfl,rfl,⟨by decide,by decide +kernel⟩,_,rfl,_,_,rfl,rfl,d,?_⟩;exact k _ _ (z87 _ (Int.ne_of_gt d)) (z62 _ d) ⟨0,[x,z],[x,z],⟨rfl,rfl⟩,e,e,e,⟨_,_,rfl,C,by lia⟩,rfl⟩ off
theorem eG {f:Addr}{fd:FuncData}(hm:mg "_law_take"=some (.ref f))(hk:PySem.W.keepIn K (.ref f)=true)(hb:Binds K fd ["_law_row","_law_base"] [])(G:yK P w K mg base CX0 1 f fd ["_law_row","_law_base"] fB):Cal P w K mg base "_law_take" 1 xp:=by
 refine⟨f,fd,_,hm,hk,hb,G.imp λvs H Q E h=>?_⟩;obtain⟨F,as,Q',rfl,t,o,g,⟨n,rfl,h0,k,hq⟩,j⟩:=h;cases g with
 |cons a1 r=>
  obtain⟨a,b,c,e,rfl⟩:=a1;obtain⟨v,rfl,av⟩:=r.one;cases av.int_inv;refine⟨a,b,c,n,rfl,(t a b c e).1,h0,k,λz H' m i TA off=>j _ _ _ (hq z m i) ⟨⟨(by
   obtain⟨_,_,_,_,e1,l,_⟩:=(t a b c e).1.ex;exact ze6 t.tab e1 l off),t.ot,λt' p c' d=>?_⟩,λy u hy n=>?_,.int z⟩⟩
  ·rw[e]at d;cases d;exact⟨TA,(t a b c e).2⟩
  ·rw[off y (n.1 _ _ _ e).1 (n.1 _ _ _ e).2];exact hy
theorem gc (F:FnD K mg "_law_begin" eN ["_law_cell"]):Cal P w K mg base "_law_begin" 1 jZ:=by
 refine yj ["_law_cell"] F λ_ _ _ _ _ _ _ _ Q nd hr h=>?_;obtain⟨c,rfl,q⟩:=h;refine xu (zo5 (zc 0 rfl (uG (r:=1000000000000000000) ⟨by decide,by decide,by decide⟩ (by decide) ⟨_,_,rfl,rfl,?_⟩)));refine cp (λ_=>?_) (λ_=>zw ?_)
 ·exact vd (xQ (zl (kA (zc 0 rfl (uG (r:=1000000000000000000) ⟨by decide,by decide,by decide⟩ (by decide) ⟨_,_,rfl,rfl,zl (zL (zu ⟨_,rfl,zR3 rfl,q _ _ (by decide) (by decide)⟩))⟩)))))
 ·refine vd (xQ (zl (zL (zl (uB (dA (zc 0 rfl (zL ⟨_,_,rfl,rfl,by decide,zL ⟨_,_,rfl,rfl,zu ⟨_,rfl,zR3 rfl,?_⟩⟩⟩))))))));have a:=z87 c (show(2147483629:Int)≠0 by decide);have b:=z62 c (show(0:Int)<2147483629 by decide);exact q _ _ (by lia) (by lia)
end
end K67
set_option compiler.extract_closed false
set_option hygiene false in
local macro_rules
 |`(tactic| exists $f,$a)=>`(tactic| first|refine $f 0 $a ?_|refine $f 1 $a ?_|refine $f 2 $a ?_|refine $f 3 $a ?_|refine $f 4 $a ?_|refine $f 5 $a ?_|refine $f 6 $a ?_|refine $f 7 $a ?_|refine $f 8 $a ?_|refine $f 9 $a ?_|refine $f 10 $a ?_|refine $f 11 $a ?_|refine $f 12 $a ?_|refine $f 13 $a ?_|refine $f 14 $a ?_|refine $f 15 $a ?_|refine $f 16 $a ?_|refine $f 17 $a ?_)
 |`(tactic| exists $f)=>`(tactic| with_reducible refine $f ?_)
 |`(tactic| specialize $p)=>`(tactic| with_reducible show $p)
set_option hygiene false in
local macro_rules
 |`(tactic| and_intros)=>`(tactic| repeat (first
  |((specialize EvD _ _ _ _);first
   |((specialize EvD _ _ (.Name _ _) _);exists zc,rfl)
   |((specialize EvD _ _ (.Constant _ _ _) _);first|exists zL|exists vL|exists cX|exists mS)
   |((specialize EvD _ _ (.BinOp (.Constant (.int 10) _ _) .Pow (.Constant (.int 6) _ _) _) _);refine uG (r:=1000000) ⟨by decide,by decide,by decide⟩ (by decide) ?_)
   |((specialize EvD _ _ (.BinOp (.Constant (.int 10) _ _) .Pow (.Constant (.int 12) _ _) _) _);refine uG (r:=1000000000000) ⟨by decide,by decide,by decide⟩ (by decide) ?_)
   |((specialize EvD _ _ (.BinOp (.Constant (.int 10) _ _) .Pow (.Constant (.int 9) _ _) _) _);refine uG (r:=1000000000) ⟨by decide,by decide,by decide⟩ (by decide) ?_)
   |((specialize EvD _ _ (.BinOp (.Constant (.int 10) _ _) .Pow (.Constant (.int 11) _ _) _) _);refine uG (r:=100000000000) ⟨by decide,by decide,by decide⟩ (by decide) ?_)
   |((specialize EvD _ _ (.BinOp _ .Add (.List _ _) _) _);refine EvL.d (yA ?_))
   |((specialize EvD _ _ (.BinOp (.List _ _) .Add _ _) _);refine EvL.d (yA ?_))
   |((specialize EvD _ _ (.BinOp (.Subscript _ (.Slice _ _ none _) _) .Add _ _) _);refine EvL.d (yA ?_))
   |((specialize EvD _ _ (.BinOp _ .Add (.Subscript _ (.Slice _ _ none _) _) _) _);refine EvL.d (yA ?_))
   |((specialize EvD _ _ (.BinOp (.Call (.Attribute _ "rules" _) _ _ _) .Add _ _) _);refine EvL.d (yA ?_))
   |exists uB
   |exists kA
   |exists dA
   |exists zf0
   |exists zy8
   |exists ev_shl
   |exists zy0
   |exists zr4
   |exists vF
   |((specialize EvD _ _ (.Subscript _ (.Slice _ _ none _) _) _);refine EvL.d (ni ?_))
   |((specialize EvD _ _ (.Subscript _ _ _) _);refine we hr.one (fun _ _=>rfl) ?_)
   |((specialize EvD _ _ (.List _ _) _);refine EvL.d (xQ ?_))
   |((specialize EvD _ _ (.Call (.Name "len" _) [.Call (.Name "set" _) _ _ _] _ _) _);refine ev_lenSet rfl (by rfl) nb.len (by rfl) (by assumption) ?_)
   |((specialize EvD _ _ (.Call (.Name "len" _) _ _ _) _);refine wF (by rfl) nb.len ?_)
   |((specialize EvD _ _ (.Call (.Name "min" _) [_,_] _ _) _);refine zy6 rfl (by rfl) nb.min ?_)
   |((specialize EvD _ _ (.Call (.Name "max" _) [_,_] _ _) _);refine zx1 rfl (by rfl) nb.max ?_)
   |((specialize EvD _ _ (.Call (.Name "list" _) _ _ _) _);refine EvL.d (oj (by rfl) nb.list ?_))
   |((specialize EvD _ _ (.Call (.Name "repr" _) _ _ _) _);refine ev_repr hr.gd hr.units (by rfl) nb.repr ?_)
   |((specialize EvD _ _ (.Call (.Name "min" _) [_] _ _) _);refine ev_minI rfl hr.few (by rfl) nb.min ?_)
   |((specialize EvD _ _ (.Call (.Name "isinstance" _) _ _ _) _);first|refine sP (by rfl) nb.isinstance (by rfl) nb.int boot_int ?_|refine sP (by rfl) nb.isinstance (by rfl) nb.bool boot_bool ?_|refine sP (by rfl) nb.isinstance (by rfl) nb.str boot_str ?_|refine sP (by rfl) nb.isinstance (by rfl) nb.list boot_list ?_|refine sP (by rfl) nb.isinstance (by rfl) nb.tuple boot_tuple ?_)
   |((specialize EvD _ _ (.Call (.Name "int" _) _ _ _) _);refine ev_intB (by rfl) nb.int ?_)
   |((specialize EvD _ _ (.Call (.Name _ _) _ _ _) _);first|refine zc6 (by with_reducible assumption) (by exact⟨rfl,rfl,rfl,rfl,rfl⟩) (hr.mono (by decide)) (by rfl) ?_|refine EvN.d (bR (by with_reducible assumption) (by exact⟨rfl,rfl,rfl,rfl,rfl⟩) (hr.mono (by decide)) (by rfl) ?_))
   |((specialize EvD _ _ (.Call (.Attribute _ _ _) (_::_) _ _) _);refine eM (by with_reducible assumption) (by exact⟨rfl,rfl,rfl,rfl,rfl⟩) (hr.mono (by decide)) ?_)
   |((specialize EvD _ _ (.Call (.Attribute _ _ _) [] _ _) _);refine gk (by with_reducible assumption) (by exact⟨rfl,rfl,rfl,rfl,rfl⟩) (hr.mono (by decide)) ?_)
   |((specialize EvD _ _ (.Compare _ [_] _ _) _);first|exists zn9|exists zD1|exists ev_gt|exists ev_ge|exists zp2|exists ev_notN|((specialize EvD _ _ (.Compare _ [.Eq] _ _) _);refine zp8 hr.units ?_)|((specialize EvD _ _ (.Compare _ [.NotEq] _ _) _);refine ev_nek hr.units ?_)|((specialize EvD _ _ (.Compare _ [.In] _ _) _);refine ev_ink hr.one ?_)|((specialize EvD _ _ (.Compare _ [.NotIn] _ _) _);refine ev_nink hr.one ?_)|((specialize EvD _ _ (.Compare _ [.Is] [.Constant (.bool _) _ _] _) _);refine ev_isB ?_))
   |((specialize EvD _ _ (.Compare _ [_,_] _ _) _);first|refine ev_lelt ?_|refine ev_ltle ?_|refine fY ?_)
   |((specialize EvD _ _ (.BoolOp _ _ _) _);first|exists zs1|exists zE3|exists zp6)
   |exists lL)
  |((specialize EvA _ _ _ _);first
   |exists zu
   |((specialize EvA _ _ (.Name "_law_row" _::_) _);exists xV,rfl)
   |refine zl ?_)
  |((specialize EvT _ _ _ _);first
   |((specialize EvT _ _ (.Compare _ [_] _ _) _);first|exists zE1|exists et_le|exists zm7|exists zo5|exists vI|exists ze0|((specialize EvT _ _ (.Compare _ [.Eq] _ _) _);refine zp7 hr.units ?_)|((specialize EvT _ _ (.Compare _ [.NotEq] _ _) _);refine zu5 hr.units ?_)|((specialize EvT _ _ (.Compare _ [.In] _ _) _);refine zo7 hr.one ?_)|((specialize EvT _ _ (.Compare _ [.NotIn] _ _) _);refine et_nink hr.one ?_)|((specialize EvT _ _ (.Compare _ [.Is] [.Constant (.bool _) _ _] _) _);refine et_isB ?_)|((specialize EvT _ _ (.Compare _ [.IsNot] [.Constant (.bool _) _ _] _) _);refine et_isntB ?_))
   |((specialize EvT _ _ (.Compare _ [_,_] _ _) _);first|refine et_lelt ?_|refine et_ltle ?_|refine bX ?_)
   |exists ba
   |((specialize EvT _ _ (.BoolOp _ _ _) _);exists EvW.t)
   |refine bB ?_)
  |((specialize EvL _ _ _ _);first
   |exists xQ
   |((specialize EvL _ _ (.Call (.Name "list" _) _ _ _) _);refine oj (by rfl) nb.list ?_)
   |((specialize EvL _ _ (.Call (.Name _ _) _ _ _) _);refine el_calR (by with_reducible assumption) (by exact⟨rfl,rfl,rfl,rfl,rfl⟩) (hr.mono (by decide)) (by rfl) ?_)
   |((specialize EvL _ _ (.Call (.Attribute _ _ _) [] _ _) _);refine el_meth0R (by with_reducible assumption) (by exact⟨rfl,rfl,rfl,rfl,rfl⟩) (hr.mono (by decide)) ?_)
   |((specialize EvL _ _ (.Subscript _ (.Slice _ _ none _) _) _);refine ni ?_)
   |((specialize EvL _ _ (.BinOp _ .Add _ _) _);refine yA ?_))
  |((specialize EvW _ _ _ _);first
   |exists oi
   |exists zo2
   |exists pC
   |exists zs6)
  |((specialize EvO _ _ _ _);first
   |exists ze3
   |exists zb9)
  |((specialize fL _ _ _);first
   |refine ixk rfl rfl rfl ?_
   |refine ixk_0 ?_
   |refine ixk_1 ?_)
  |((specialize ze2 _ _ _ _);first
   |refine ink rfl rfl ?_
   |refine ink_hind ?_
   |refine zK3 rfl rfl ?_)
  |((specialize qZ _ _ _);first
   |exists zg4
   |exists zf9
   |exists eqk_bool
   |refine eqk rfl rfl rfl rfl ?_)
  |((specialize SvS _ _ _ _);first
   |((specialize SvS _ (List.set _ _ _) _ _);dsimp only[List.set])
   |((specialize SvS _ _ (zv _) _);show SvS _ _ (_::_) _)
   |((specialize SvS _ _ (.Assign [.Name _ _] (.List [] _) _::_) _);exists xx,nd)
   |((specialize SvS _ _ (.Assign [.Name _ _] _ _::_) _);exists zY,nd)
   |((specialize SvS _ _ (.Expr (.Call (.Attribute _ "append" _) _ _ _) _::_) _);exists wW,rfl)
   |((specialize SvS _ _ (.Return (some (.Name _ _)) _::_) _);exists xX,rfl)
   |exists yI
   |exists sv_cont
   |exists sv_pass
   |exists xu
   |exists zw
   |((with_reducible refine tN ?hk ?_);case hk=>first|rfl|decide +kernel)
   |((with_reducible refine wZ ?hk ?_);case hk=>first|rfl|decide +kernel))
  |((specialize xp _ _);refine⟨_,rfl,by first|decide|lia,by first|decide|(show _<big;unfold big;lia),fun _ _ _=>?_⟩)
  |((with_reducible refine zn2 ?hk ?_);case hk=>first|rfl|decide +kernel)
  |((with_reducible refine zE8 ?hk ?_);case hk=>first|rfl|decide +kernel)
  |refine⟨_,_,rfl,rfl,?_⟩
  |refine⟨_,_,_,rfl,rfl,rfl,?_⟩
  |refine⟨_,rfl,zR3 rfl,?_⟩
  |refine⟨_,rfl,rfl,?_⟩
  |refine⟨_,rfl,?_⟩))
namespace K67
open PySem PySem.Spec PyProof.Rows L2
abbrev fk :Stmt:=top 3
abbrev jD :Stmt:=top 4
abbrev zl2 :Stmt:=top 5
abbrev zD6 :Stmt:=top 6
abbrev zj5 :Stmt:=top 7
abbrev oG :Stmt:=top 8
abbrev zn5 :Stmt:=inClass (top 32) 0
abbrev zo0 :Stmt:=inClass (top 32) 2
abbrev df :Stmt:=inClass (top 32) 3
abbrev aE :Stmt:=inClass (top 33) 0
abbrev zy3 :Stmt:=inClass (top 34) 0
abbrev zJ2 :Stmt:=inClass (top 35) 0
abbrev aw :Stmt:=inClass (top 36) 0
abbrev zr6 :Stmt:=inClass (top 37) 0
abbrev zr9 :Stmt:=inClass (top 38) 0
abbrev zB1 :Stmt:=inClass (top 39) 0
abbrev cz :Stmt:=top 41
abbrev jM :Stmt:=top 42
abbrev eE :Stmt:=top 43
abbrev ju :Stmt:=top 44
abbrev zj2 :Stmt:=top 45
abbrev jB :Stmt:=top 46
theorem mh (d:PyData):zQ (.str "price") d=(isNone d||sV d):=rfl
theorem mE (d:PyData):zQ (.str "come") d=isBool d:=rfl
theorem eO (d:PyData):zQ (.str "go") d=isBool d:=rfl
theorem oE (d:PyData):zQ (.str "least") d=yS 1 14 d:=rfl
theorem kI (d:PyData):zQ (.str "most") d=yS 1 14 d:=rfl
theorem kl (d:PyData):zQ (.str "deal") d=(isNone d||rR d):=rfl
theorem hV (d:PyData):zQ (.str "fee") d=sV d:=rfl
theorem zB {lo hi:Int}{d:PyData}(h:yS lo hi d=true):∃i,d=.int i/\lo<=i/\i<=hi:=by
 cases d with
 |int i=>exact⟨i,rfl,zX6 (zX2.mp h).1,zX6 (zX2.mp h).2⟩
 |_=>cases h
theorem bool_inv {d:PyData}(h:isBool d=true):∃b,d=.bool b:=by
 cases d with
 |bool b=>exact⟨b,rfl⟩
 |_=>cases h
theorem uV {d:PyData}(h:rR d=true):∃m f:Int,d=.tuple [.int m,.int f]/\2<=m/\m<=14/\1<=f/\f<=m-1:=by
 unfold rR at h;split at h
 ·obtain⟨a,b⟩:=zX2.mp h;obtain⟨_,rfl,c,i⟩:=zB b;obtain⟨_,e,j,g⟩:=zB a;cases e;exact⟨_,_,rfl,j,g,c,i⟩
 ·cases h
theorem none_or {d:PyData}{p:Bool}(h:(isNone d||p)=true):d=.none\/p=true:=by
 cases d with
 |none=>exact .inl rfl
 |_=>exact .inr h
theorem zS {d:PyData}(h:yi d=true):∃(s:Str) (i j:Int) (v:PyData),s∈words/\d=.tuple [.str s,.int i,.int j,v]/\0<=i/\i<=j/\j<=1000000/\zQ (.str s) v=true:=by
 obtain⟨s,a,b,v,f,rfl⟩:=tu h;obtain⟨c,m⟩:=zX2.mp (show(wJ (.tuple [a,b])&&zQ (.str s) v)=true from h);unfold wJ zt5 at c;split at c
 ·rename_i k e;split at e
  ·rename_i z;cases z;split at e
   ·rename_i q;cases e;obtain⟨o,g⟩:=zX2.mp q;obtain⟨_,e1,n,a1⟩:=zB o;obtain⟨_,l,r,p⟩:=zB g;cases e1;cases l;have:=zX6 c;exact⟨s,_,_,v,f,rfl,n,by lia,p,m⟩
   ·cases e
  ·cases e
 ·cases c
theorem xR {s:Str}{v:PyData}(a:s∈words)(h:zQ (.str s) v=true):v.hasDict=false/\noL v=true:=by
 have w:∀{lo hi:Int},yS lo hi v=true->v.hasDict=false/\noL v=true:=λz=>by obtain⟨_,rfl,_⟩:=zB z;exact⟨rfl,rfl⟩
 have b:isBool v=true->v.hasDict=false/\noL v=true:=λz=>by obtain⟨_,rfl⟩:=bool_inv z;exact⟨rfl,rfl⟩
 simp only[words,zN6,zP0,zR9]at a;rcases a with rfl|rfl|rfl|rfl|rfl|rfl|rfl
 ·rcases none_or h with rfl|h
  ·exact⟨rfl,rfl⟩
  ·exact w h
 ·exact b h
 ·exact b h
 ·exact w h
 ·exact w h
 ·rcases none_or h with rfl|h
  ·exact⟨rfl,rfl⟩
  ·obtain⟨_,_,rfl,_⟩:=uV h;exact⟨rfl,rfl⟩
 ·exact w h
def zm2 :Ph:=λas Q=>∃i:Int,as=[.dat (.int i)]/\Q (.dat (.bool true))
def fP :Ph:=λas Q=>∃i lo hi:Int,as=[.dat (.int i),.dat (.int lo),.dat (.int hi)]/\lo<=i/\i<=hi/\Q (.dat (.bool true))
def zs2 :Ph:=λas Q=>∃i j:Int,as=[.dat (.tuple [.int i,.int j])]/\Q (.dat (.bool true))
def zG2 :Ph:=λas Q=>∃i:Int,as=[.dat (.int i)]/\0<=i/\i<=1000000/\Q (.dat (.bool true))
def zg1 :Ph:=λas Q=>∃i j:Int,as=[.dat (.tuple [.int i,.int j])]/\0<=i/\i<=j/\j<=1000000/\Q (.dat (.bool true))
def zD4 :Ph:=λas Q=>∃d,as=[.dat d]/\sV d=true/\Q (.dat (.bool true))
def zD8 :Ph:=λas Q=>∃d,as=[.dat d]/\rR d=true/\Q (.dat (.bool true))
def zG1 :Ph:=λas Q=>∃s d,as=[.dat (.str s),.dat d]/\s∈words/\zQ (.str s) d=true/\Q (.dat (.bool true))
def zz2 :Ph:=λas Q=>∃d,as=[.dat d]/\yi d=true/\Q (.dat (.bool true))
section
variable {P:Program}{w:World}{K:PySem.W.Frag}{mg:Str->Option Value}{base:Heap}{cs:Cs}
theorem zc9 (F:FnD K mg "is_whole" fk ["thing"])(nb:NbT mg):Cal P w K mg base "is_whole" 1 zm2:=by
 refine yj ["thing"] F λ_ _ _ _ _ _ _ _ Q nd hr h=>?_;obtain⟨i,rfl,q⟩:=h;and_intros;exact q
theorem lC (F:FnD K mg "is_whole_within" jD ["thing","lowest","highest"])(c:Cal P w K mg base "is_whole" 1 zm2):Cal P w K mg base "is_whole_within" 2 fP:=by
 refine yj ["thing","lowest","highest"] F λ_ _ _ _ _ _ _ _ Q nd hr h=>?_;obtain⟨i,lo,hi,rfl,a,b,q⟩:=h;and_intros;refine zn2 (zS0 a) ?_;and_intros;rw[zS0 b];exact q
theorem br (F:FnD K mg "is_pair" zl2 ["thing"])(nb:NbT mg):Cal P w K mg base "is_pair" 1 zs2:=by
 refine yj ["thing"] F λ_ _ _ _ _ _ _ _ Q nd hr h=>?_;obtain⟨i,j,rfl,q⟩:=h;and_intros;exact q
theorem gE (F:FnD K mg "is_day" zD6 ["thing"])(gl:∃t,mg "LAST_DAY"=some (.int 1000000 t))(c:Cal P w K mg base "is_whole_within" 2 fP):Cal P w K mg base "is_day" 3 zG2:=by
 refine yj ["thing"] F λ_ _ _ _ _ _ _ _ Q nd hr h=>?_;obtain⟨i,rfl,a,b,q⟩:=h;and_intros;exact yH (by rfl) gl (zu ⟨_,_,_,rfl,a,b,q⟩)
theorem fX (F:FnD K mg "is_pair_of_days" zj5 ["thing"])(c:Cal P w K mg base "is_pair" 1 zs2)(e:Cal P w K mg base "is_day" 3 zG2):Cal P w K mg base "is_pair_of_days" 4 zg1:=by
 refine yj ["thing"] F λ_ _ _ _ _ _ _ _ Q nd hr h=>?_;obtain⟨i,j,rfl,a,d,b,q⟩:=h;and_intros;refine⟨_,_,rfl,?_⟩;and_intros;refine⟨a,by lia,?_⟩;and_intros;exact⟨by lia,b,q⟩
theorem oC (F:FnD K mg "is_stretch" oG ["thing"])(d:Cal P w K mg base "is_pair_of_days" 4 zg1):Cal P w K mg base "is_stretch" 5 zg1:=by
 refine yj ["thing"] F λ_ _ _ _ _ _ _ _ Q nd hr h=>?_;obtain⟨i,j,rfl,b,a,c,q⟩:=h;and_intros;refine⟨_,_,rfl,b,a,c,?_⟩;and_intros;rw[zS0 a];exact q
theorem mw (F:FnD K mg "is_coins" cz ["thing"])(gl:∃t,mg "MOST_COINS"=some (.int 1000000000000 t))(c:Cal P w K mg base "is_whole_within" 2 fP):Cal P w K mg base "is_coins" 3 zD4:=by
 refine yj ["thing"] F λ_ _ _ _ _ _ _ _ Q nd hr h=>?_;obtain⟨d,rfl,h,q⟩:=h;obtain⟨i,rfl,a,b⟩:=zB h;and_intros;exact yH (by rfl) gl (zu ⟨_,_,_,rfl,a,b,q⟩)
theorem kx (F:FnD K mg "is_deal" jM ["thing"])(gl:∃t,mg "MOST_NIGHTS"=some (.int 14 t))(g:Cal P w K mg base "is_pair" 1 zs2)(i:Cal P w K mg base "is_whole_within" 2 fP):Cal P w K mg base "is_deal" 3 zD8:=by
 refine yj ["thing"] F λ_ _ _ _ _ _ _ _ Q nd hr h=>?_;obtain⟨d,rfl,h,q⟩:=h;obtain⟨m,f,rfl,b,c,a,e⟩:=uV h;and_intros;refine⟨_,_,rfl,?_⟩;and_intros;refine yH (by rfl) gl (zu ⟨_,_,_,rfl,b,c,?_⟩);and_intros;exact⟨_,_,_,rfl,a,e,q⟩
theorem oW (F:FnD K mg "is_worth" eE ["word","thing"])(nb:NbT mg)(gl:∃t,mg "MOST_NIGHTS"=some (.int 14 t))(g:Cal P w K mg base "is_whole_within" 2 fP)(k:Cal P w K mg base "is_coins" 3 zD4)(j:Cal P w K mg base "is_deal" 3 zD8):Cal P w K mg base "is_worth" 4 zG1:=by
 refine yj ["word","thing"] F λ_ _ _ _ _ _ _ _ Q nd hr h=>?_;obtain⟨s,d,rfl,e,h,q⟩:=h;simp only[words,zN6,zP0,zR9]at e;rcases e with rfl|rfl|rfl|rfl|rfl|rfl|rfl
 ·rcases none_or h with rfl|h
  ·and_intros;exact q
  ·obtain⟨i,rfl,_⟩:=zB h;and_intros;exact⟨h,q⟩
 ·obtain⟨b,rfl⟩:=bool_inv h;and_intros;exact q
 ·obtain⟨b,rfl⟩:=bool_inv h;and_intros;exact q
 ·obtain⟨i,rfl,a,c⟩:=zB h;and_intros;exact yH (by rfl) gl (zu ⟨_,_,_,rfl,a,c,q⟩)
 ·obtain⟨i,rfl,a,c⟩:=zB h;and_intros;exact yH (by rfl) gl (zu ⟨_,_,_,rfl,a,c,q⟩)
 ·rcases none_or h with rfl|h
  ·and_intros;exact q
  ·obtain⟨m,f,rfl,_⟩:=uV h;and_intros;exact⟨h,q⟩
 ·and_intros;exact⟨h,q⟩
theorem mG (F:FnD K mg "is_rule" ju ["thing"])(nb:NbT mg)(k:Cal P w K mg base "is_stretch" 5 zg1)(g:Cal P w K mg base "is_worth" 4 zG1):Cal P w K mg base "is_rule" 6 zz2:=by
 refine yj ["thing"] F λ_ _ _ _ _ _ _ _ Q nd hr h=>?_;obtain⟨d,rfl,h,q⟩:=h;obtain⟨s,i,j,v,a,rfl,e,f,c,b⟩:=zS h;have hf:=(xR a b).1;and_intros;refine⟨true,by simp[PyData.hasDict,PyData.hasDictAll,hf],rfl,?_⟩;and_intros;refine⟨_,_,rfl,e,f,c,?_⟩;and_intros;exact⟨_,_,rfl,a,b,q⟩
def tF (C:Addr)(a b v:PyData):PyData:=wC C [(.str "first",a),(.str "last",b),(.str "worth",v)]
def uu (cs:Cs):PyData->PyData
 |.tuple [.str w,a,b,v]=>tF (cs.of w) a b v
 |_=>.none
def mx (C:Addr):Ph:=λas Q=>∃a b v,as=[.dat a,.dat b,.dat v]/\noL a=true/\noL b=true/\noL v=true/\Q (.dat (tF C a b v))
def zF8 (cs:Cs):Ph:=λas Q=>∃s a b v,as=[.dat (.str s),.dat a,.dat b,.dat v]/\s∈words/\noL a=true/\noL b=true/\noL v=true/\Q (.dat (tF (cs.of s) a b v))
def oY (cs:Cs):Ph:=λas Q=>∃d,as=[.dat d]/\yi d=true/\Q (.dat (uu cs d))
def mO (C:Addr)(w:Str):Ph:=λas Q=>∃a b v,as=[.dat (tF C a b v)]/\Q (.dat (.tuple [.str w,a,b,v]))
def pf (C:Addr)(w:Str):Ph:=λas Q=>∃a b v,as=[.dat (tF C a b v)]/\Q (.dat (.str w))
def rY (C:Addr):Ph:=λas Q=>∃(a b day:Int) (v:PyData),as=[.dat (tF C (.int a) (.int b) v),.dat (.int day)]/\Q (.dat (.bool (decide (a<=day)&&decide (day<=b))))
theorem cc (F:FnD K mg "made" zj2 ["word","first","last","worth"])(f:uI P w K mg base "Price" 1 [] (mx cs.price))(g:uI P w K mg base "Come" 1 [] (mx cs.come))(j:uI P w K mg base "Go" 1 [] (mx cs.go))(k:uI P w K mg base "Least" 1 [] (mx cs.least))(l:uI P w K mg base "Most" 1 [] (mx cs.most))(i:uI P w K mg base "Deal" 1 [] (mx cs.deal))(e:uI P w K mg base "Fee" 1 [] (mx cs.fee)):Cal P w K mg base "made" 3 (zF8 cs):=by
 refine yj ["word","first","last","worth"] F λ_ _ _ _ _ _ _ _ Q nd hr h=>?_;obtain⟨s,a,b,v,rfl,c,ha,hb,d,q⟩:=h;simp only[words,zN6,zP0,zR9]at c;rcases c with rfl|rfl|rfl|rfl|rfl|rfl|rfl<;>and_intros<;>exact⟨_,_,_,rfl,ha,hb,d,q⟩
theorem lj (F:FnD K mg "rule_of" jB ["thing"])(CR:Cal P w K mg base "is_rule" 6 zz2)(e:Cal P w K mg base "made" 3 (zF8 cs)):Cal P w K mg base "rule_of" 7 (oY cs):=by
 refine yj ["thing"] F λ_ _ _ _ _ _ _ _ Q nd hr h=>?_;obtain⟨d,rfl,h,q⟩:=h;obtain⟨s,i,j,v,a,rfl,f,g,c,b⟩:=zS h;and_intros;refine⟨h,?_⟩;and_intros;exact⟨_,_,_,_,rfl,a,rfl,rfl,(xR a b).2,q⟩
theorem yP {x:Str}{C f fT fE fW:Addr}{fd:FuncData}(R:tK K C f fT fE fW)(hm:mg x=some (.ref C))(F:Fun K "__init__" "Rule.__init__" zn5 f fd)(hb:Binds K fd ["self","first","last","worth"] []):uI P w K mg base x 1 [] (mx C):=by
 refine⟨C,f,fd,_,[],hm,R.makes,hb,.nil,F.ok (N:=["self","first","last","worth"]) .o (λvs H Q E h=>?_) (λcdv A outer s H vs Q E hr h=>?_)⟩
 ·obtain⟨_,as,_,_,_,_,_,rfl,_,_,_,_,_,_,_,c,⟨a,b,v,rfl,_⟩,_⟩:=h;exact congrArg (·+1) c.length
 ·obtain⟨G,as,Q',p,dx,O,H1,rfl,i,I,hn,rfl,rfl,t,o,c,⟨a,b,v,rfl,n1,n2,B,q⟩,r⟩:=h;cases c with
  |cons D c=>cases c with
   |cons M c=>cases c with
    |cons J c=>
     cases c;rename_i x y z;refine⟨_,zy (pe (pv 0) (pv 1) rfl) (zy (pe (pv 0) (pv 2) rfl) (tX (pe (pv 0) (pv 3) rfl))),_,rfl,_,rfl,p,C,dx,[],rfl,zm,R.cl,R.nf,(by decide:0<1000),_,rfl,_,rfl,p,C,dx,_,rfl,zm,R.cl,R.nl,(show 1<1000 by decide),_,rfl,_,rfl,p,C,dx,xA "last" y (xA "first" x []),rfl,zm,R.cl,R.nw,(show 2<1000 by decide),?_⟩;show Q .non _;rw[pI,pI,pI];have g:zt G.H0 (upd (upd G.H0 dx (.own p)) p (.ins C dx (zC4 x y z))):=λa o e=>by rw[zj (zo e i),zj (zo e I)];exact e
     have k:∀{u:V} {d:PyData},AV (sub (λy=>¬G.O0 y) G.H0) u d->noL d=true->AV (sub (λy=>¬G.O0 y/\∀xs,G.H0 y≠some (.lst xs)) (upd (upd G.H0 dx (.own p)) p (.ins C dx (zC4 x y z)))) u d:=λh n=>h.noL (λa o L e=>by
      obtain⟨e1,l⟩:=zi e;exact zF ⟨e1,λxs j=>by rw[l]at j;cases j;exact L trivial⟩ (g _ _ l)) n
     refine r _ _ q ⟨t.same g,Kz.of_same g,.ins (zF ⟨λe=>?_,λxs e=>by rw[i]at e;cases e⟩ zm) (.cons (k D n1) (.cons (k M n2) (.cons (k J B) .nil)))⟩;obtain⟨u,m,_⟩:=o p e;rw[i]at m;cases m
theorem yQ {C f fI fT fE:Addr}{fd:FuncData}{c d:Str}{st:Stmt}{j:Nat}{p1 p2:Pos}(R:tK K C fI fT fE f)(F:Fun K "word" d st f fd)(hb:Binds K fd ["self"] [])(S:zW ["self"] ["self"] (zg st))(e:zv st=[.Return (some (.Constant (.str c) j p1)) p2]):xt P w K mg base C "word" 1 (pf C c):=by
 refine nj ["self"] R.cl R.word F hb (λ_ _ _ _ _ _ _ Q nd hr h=>?_) S;obtain⟨a,b,v,rfl,q⟩:=h;rw[e];exact yI (vL q)
theorem yM {C f fI fE fW:Addr}{fd:FuncData}{c:Str}(R:tK K C fI f fE fW)(F:Fun K "told" "Rule.told" zo0 f fd)(hb:Binds K fd ["self"] [])(W:xt P w K mg base C "word" 1 (pf C c)):xt P w K mg base C "told" 2 (mO C c):=by
 refine nj ["self"] R.cl R.told F hb λ_ _ _ _ _ _ _ Q nd hr h=>?_;obtain⟨a,b,v,rfl,q⟩:=h;and_intros;exact⟨_,_,_,rfl,zl (wN R.cl R.nf (zc 0 rfl ⟨_,_,rfl,rfl,zl (wN R.cl R.nl (zc 0 rfl ⟨_,_,rfl,rfl,zl (wN R.cl R.nw (zc 0 rfl ⟨_,_,rfl,rfl,zu ⟨_,rfl,zR3 rfl,q⟩⟩))⟩))⟩))⟩
theorem yp {C f fI fT fW:Addr}{fd:FuncData}(R:tK K C fI fT f fW)(F:Fun K "tells" "Rule.tells" df f fd)(hb:Binds K fd ["self","day"] []):xt P w K mg base C "tells" 1 (rY C):=by
 refine nj ["self","day"] R.cl R.tells F hb λ_ _ _ _ _ _ _ Q nd hr h=>?_;obtain⟨a,b,day,v,rfl,q⟩:=h;and_intros;refine wN R.cl R.nf (zc 0 rfl ⟨_,_,rfl,rfl,?_⟩);and_intros;refine wA (λz=>?_) (λz=>?_)
 ·rw[z,Bool.true_and]at q;exact wN R.cl R.nl (zc 0 rfl ⟨_,_,rfl,rfl,_,rfl,q⟩)
 ·rw[z,z43]at q;exact q
end
abbrev zh2 :Stmt:=top 50
abbrev yY :Stmt:=inClass (top 49) 0
abbrev uh :Stmt:=inClass (top 49) 1
abbrev jh :Stmt:=inClass (top 49) 2
abbrev ee :Stmt:=top 40
def yx (C:Addr)(cs:Cs)(ds:List PyData):PyData:=wC C [(.str "kept",.list (ds.map (uu cs)))]
def Rules (ds:List PyData):Prop:=∀d∈ds,yi d=true/\SeqAt.shaped d=true/\d.hasDict=false
def dz (cs:Cs):Ph:=λas Q=>∃ds,as=[.dat (.list ds)]/\Rules ds/\ds.length<=24/\Q (.own (ds.map (uu cs)))
def pT (C:Addr)(cs:Cs):Ph:=λas Q=>∃ds,(as=[.dat (.list ds)]\/(as=[.dat .none]/\ds=[]))/\Rules ds/\ds.length<=24/\Q (.dat (yx C cs ds))
def pP (C:Addr)(cs:Cs):Ph:=λas Q=>∃ds,as=[.dat (yx C cs ds)]/\Rules ds/\ds.length<=1000/\Q (.own ds)
theorem vM {cs:Cs}{d:PyData}(h:yi d=true):∃(s:Str) (a b v:PyData),s∈words/\d=.tuple [.str s,a,b,v]/\uu cs d=tF (cs.of s) a b v:=by
 obtain⟨s,a,b,v,c,rfl⟩:=tu h;exact⟨s,a,b,v,c,rfl,rfl⟩
def dh :Scope:=match zv uh with
 |[.Return (some (.ListComp _ _ sc _)) _]=>sc
 |_=>zg uh
def tbU :List (Str×V):=[("price",.non),("come",.bl true),("go",.bl true),("least",.int 1),("most",.int 14),("deal",.non),("fee",.int 0)]
def iH (x:Str):PyData:=if x="price"\/x="deal" then .none else if x="come"\/x="go" then .bool true else if x="least" then .int 1 else if x="most" then .int 14 else .int 0
theorem bx {x:Str}(h:x∈words):∃v,tbU.lookup x=some v/\scV (iH x)=some v:=by
 simp only[words,zN6,zP0,zR9]at h;rcases h with rfl|rfl|rfl|rfl|rfl|rfl|rfl
 ·exact⟨.non,by decide +kernel,by decide +kernel⟩
 ·exact⟨.bl true,by decide +kernel,by decide +kernel⟩
 ·exact⟨.bl true,by decide +kernel,by decide +kernel⟩
 ·exact⟨.int 1,by decide +kernel,by decide +kernel⟩
 ·exact⟨.int 14,by decide +kernel,by decide +kernel⟩
 ·exact⟨.non,by decide +kernel,by decide +kernel⟩
 ·exact⟨.int 0,by decide +kernel,by decide +kernel⟩
def wu (w:Str)(day:Int):PyData->Bool
 |.tuple [.str x,.int a,.int b,_]=>decide (x=w)&&(decide (a<=day)&&decide (day<=b))
 |_=>false
def pY :PyData->PyData
 |.tuple [_,_,_,v]=>v
 |_=>.none
def zh (ds:List PyData)(w:Str)(day:Int):PyData:=match ds.reverse.find? (wu w day)with
 |some d=>pY d
 |none=>iH w
theorem oO (ds:List PyData)(d:PyData)(w:Str)(day:Int):zh (ds++[d]) w day=if wu w day d=true then pY d else zh ds w day:=by
 unfold zh;rw[z32,List.reverse_singleton,List.singleton_append,zU1];cases wu w day d<;>simp
theorem rC {p:PyData->Bool}{e:PyData}:∀{l:List PyData}{i:Nat},(∀j<i,∀d,l[j]?=some d->p d=false)->l[i]?=some e->p e=true->l.find? p=some e
 |[],i,_,h,_=>by simp at h
 |d::l,0,_,h,q=>by
  simp at h;subst h;simp[zU1,q]
 |d::l,i+1,a,h,q=>by
  have hd:=a 0 (z46 _) d rfl;rw[zU1,hd];exact rC (i:=i) (λj b x c=>a (j+1) (Nat.succ_lt_succ b) x (by simpa using c)) (by simpa using h) q
theorem zg5 {p:PyData->Bool}{l:List PyData}(h:∀(j:Nat) d,l[j]?=some d->p d=false):l.find? p=none:=by
 rw[List.find?_eq_none];intro x a;obtain⟨j,b⟩:=List.mem_iff_getElem?.mp a;rw[h j x b];simp
def ie :List A->(A->Prop)->Prop:=λas Q=>∃x,as=[.dat (.str x)]/\x∈words/\Q (.dat (iH x))
def sf (C:Addr)(cs:Cs):List A->(A->Prop)->Prop:=λas Q=>∃ds x day,as=[.dat (yx C cs ds),.dat (.str x),.dat (.int day)]/\Rules ds/\x∈words/\Q (.dat (zh ds x day))
section
variable {P:Program}{w:World}{K:PySem.W.Frag}{mg:Str->Option Value}{base:Heap}{cs:Cs}
theorem dZ (F:FnD K mg "kept_rules" zh2 ["things"])(nb:NbT mg)(g:∃t,mg "MOST_RULES"=some (.int 24 t))(j:Cal P w K mg base "rule_of" 7 (oY cs)):Cal P w K mg base "kept_rules" 8 (dz cs):=by
 refine yj ["things","kept","number","thing","rule"] F λ_ _ _ _ _ _ _ _ Q nd hr h=>?_;obtain⟨ds,rfl,k,n,q⟩:=h;and_intros;refine yy (.many [2,3]) (jk (by rfl) nb.enumerate (zc 0 rfl (⟨_,rfl,?_⟩)));refine zM (λi α=>∃v2 c v4,α=[some (.dat (.list ds)),some (.own ((ds.take i).map (uu cs))),v2,c,v4]) ⟨none,none,none,rfl⟩ ?_ ?_
 ·rintro i d α hd ⟨v2,c,v4,rfl⟩;obtain⟨e,he,rfl⟩:=wU hd;have f:=(k e (zR1 he)).1;have hi:=(zN8.mp he).1;obtain⟨s',a,b,v,l,rfl,m⟩:=vM (cs:=cs) f;have e:(ds.take (i+1)).map (uu cs)=(ds.take i).map (uu cs)++[uu cs (.tuple [.str s',a,b,v])]:=by
   rw[zZ3,he,zY7];rfl
  rw[e];refine⟨_,rfl,?_⟩;and_intros;refine⟨f,?_⟩;and_intros;refine⟨by rw[zN0,zP7];lia,?_⟩;and_intros;exact⟨_,_,_,rfl⟩
 ·rintro α ⟨v2,c,v4,rfl⟩;rw[vc,zU3];refine xu (vU 1 rfl (zm7 (wF (by rfl) nb.len (zc 1 rfl ⟨_,rfl,yH (by rfl) g ⟨_,_,rfl,rfl,?_⟩⟩))));refine wZ (zQ3 ?_) ?_
  ·rw[zN0]
   lia
  ·and_intros;exact q
theorem oX {ds:List PyData}(g:Rules ds):noLs (ds.map (uu cs))=true:=by
 induction ds with
 |nil=>rfl
 |cons d r i=>
  have c:=i λx k=>g x (zN7 _ k);have f:=(g d zO1).1;obtain⟨s',a,b,v,l,rfl,h⟩:=vM (cs:=cs) f;obtain⟨_,_,_,_,e,j,_,_,_,hw⟩:=zS f;cases j;have z3:=(xR e hw).2;rw[zR6,h];simp only[noLs,c,Bool.and_true];simp[tF,wC,noL,sU,z3]
theorem zL8 :zW ["self","rules"] ["self","rules"] (zg yY):=.o
theorem bM {f C:Addr}{dV:Value}{fd:FuncData}(F:zv4 K "__init__" "Book.__init__" yY dV f fd)(c:Cls K C)(na:yv K C "kept")(e:Cal P w K mg base "kept_rules" 8 (dz cs)):yK P w K mg base CX0 9 f fd ["self","rules"] (spI C (pT C cs)):=by
 refine zF6 (N:=[]) F zL8 c na rfl (λas Q h=>?_) (λcdv g outer s H E as Q hr h=>?_) (λ_ _ _ _ _ _=>rfl) (Or.inl rfl)
 ·obtain⟨ds,h|⟨h,_⟩,_⟩:=h<;>rw[h]<;>rfl
 ·obtain⟨ds,h|⟨h,hz⟩,a,b,q⟩:=h
  ·subst h;exact wK e hr (by rfl) (zl (lL (vI (zc 1 rfl (rh (zc 1 rfl (zu ⟨_,rfl,a,b,_,rfl,oX a,q⟩)))))))
  ·subst h hz;exact wK e hr (by rfl) (zl (lL (vI (zc 1 rfl (sQ (EvL.d (xQ (zu ⟨_,rfl,zR3 rfl,zu ⟨[],rfl,a,b,_,rfl,oX a,q⟩⟩))))))))
theorem zC5 :zI ["self"] (zg uh) ["rule"] [none] dh:=⟨rfl,by decide +kernel,by decide +kernel,by decide +kernel,by decide +kernel,rfl,by decide +kernel⟩
theorem lh {f C:Addr}{fd:FuncData}(c:Cls K C)(na:yv K C "kept")(j:Meth K C "rules" f)(F:Fun K "rules" "Book.rules" uh f fd)(hb:Binds K fd ["self"] [])(O:∀g∈words,xt P w K mg base (cs.of g) "told" 2 (mO (cs.of g) g)):xt P w K mg base C "rules" 3 (pP C cs):=by
 refine nj ["self"] c j F hb λ_ _ _ _ _ _ _ Q nd hr h=>?_;obtain⟨ds,rfl,n,m,q⟩:=h;refine vd (ef (pat:=.one 0) rfl zC5 rfl (λ_ _ _ _=>zD (i:=0) zC5.nd rfl (Or.inl rfl)) (yg (wN c na (zc 0 rfl ⟨_,_,rfl,rfl,⟨_,rfl,by rw[zN0];exact m,?comp⟩⟩))))
 case comp=>
  refine iC (λi acc=>acc=ds.take i) rfl ?_ (λacc h=>?_)
  ·rintro i d acc hd rfl;rw[zO8,zQ0]at hd;obtain⟨e,he,rfl⟩:=hd;obtain⟨s',a,b,v,k,rfl,o⟩:=vM (cs:=cs) (n e (zR1 he)).1;refine⟨_,rfl,λC s2 l fp=>ku ?_⟩;rw[if_pos rfl];refine λC s2 l fp=>rp (O s' k) hr (zc 0 rfl ⟨_,rfl,rfl,_,_,_,rfl,?_⟩);show ds.take i++[_]=ds.take (i+1);rw[zZ3,he];rfl
  ·rw[zN0,zU3]at h;rw[h];exact q
theorem iS {a:Addr}(F:FnD K mg "usual" ee ["word"])(e:mg "USUAL"=some (.ref a))(c:jw K w a tbU):Cal P w K mg base "usual" 1 ie:=by
 refine yj ["word"] F λ_ _ _ _ _ _ _ _ Q nd hr h=>?_;obtain⟨x,rfl,f,q⟩:=h;obtain⟨v,b,d⟩:=bx f;exact yI (dY (by rfl) e c (zc 0 rfl ⟨x,iH x,v,rfl,b,d,q⟩))
theorem lI {f C:Addr}{fd:FuncData}(c:Cls K C)(na:yv K C "kept")(y:Meth K C "tells_of" f)(F:Fun K "tells_of" "Book.tells_of" jh f fd)(hb:Binds K fd ["self","word","day"] [])(nb:NbT mg)(A:Cal P w K mg base "usual" 1 ie)(r:∀u∈words,xt P w K mg base (cs.of u) "word" 1 (pf (cs.of u) u))(D:∀u∈words,xt P w K mg base (cs.of u) "tells" 1 (rY (cs.of u)))
  (o:∀u∈words,Cls K (cs.of u)/\yv K (cs.of u) "worth"):xt P w K mg base C "tells_of" 2 (sf C cs):=by
 refine nj ["self","word","day","rule"] c y F hb λ_ _ _ _ _ _ _ Q nd hr h=>?_;obtain⟨ds,x,day,rfl,B,s,q⟩:=h;refine yy (.one 3) (zp3 (by rfl) nb.reversed (wN c na (zc 0 rfl ⟨_,_,rfl,rfl,⟨_,rfl,?_⟩⟩)));refine zM (λi α=>(∃m,α=[some (.dat (yx C cs ds)),some (.dat (.str x)),some (.dat (.int day)),m])/\∀j<i,∀d,ds.reverse[j]?=some d->wu x day d=false) ⟨⟨none,rfl⟩,λj p=>absurd p (z86 _)⟩ ?_ ?_
 ·rintro i d α hd ⟨⟨m,rfl⟩,hno⟩;rw[<-List.map_reverse,zO8,zQ0]at hd;obtain⟨e,he,rfl⟩:=hd;have n:e∈ds:=List.mem_reverse.mp (zR1 he);obtain⟨u,a,b,v,l,rfl,_,_,_,_⟩:=zS (B e n).1;refine⟨_,rfl,?_⟩;refine xu (EvW.t (jJ (λ_ k=>bA (rp (r u l) hr (zc 3 rfl ⟨_,rfl,rfl,_,_,_,rfl,zc 1 rfl ⟨_,_,rfl,rfl,k⟩⟩)))
   (λE _ k=>pC (eH (vf (D u l) hr (zc 3 rfl ⟨_,rfl,rfl,zl (zc 2 rfl (zu ⟨_,_,_,_,rfl,_,rfl,k⟩))⟩)))) ?_))
  refine ya (λh=>?_) (λh=>?_)
  ·refine yI (wN (o u l).1 (o u l).2 (zc 3 rfl ⟨_,_,rfl,rfl,?_⟩));have e1:ds.reverse.find? (wu x day)=some (.tuple [.str u,.int a,.int b,v]):=rC hno he h;unfold zh at q;rw[e1]at q;exact q
  ·refine zw (zw ⟨⟨_,rfl⟩,λj p d' g=>?_⟩);rcases zS6 j i with z|z
   ·exact hno j z d' g
   ·have:j=i:=by lia
    subst this;rw[he]at g;cases g;exact h
 ·rintro α ⟨⟨m,rfl⟩,hno⟩;refine yI (xC A (hr.mono (by decide)) (by rfl) (zl (zc 1 rfl (zu ⟨x,rfl,s,?_⟩))));have e1:ds.reverse.find? (wu x day)=none:=zg5 λj d hd=>hno j (by
   have:=(zN8.mp hd).1;rw[z56,zN0]
   rwa [z56]at this) d hd
  unfold zh at q;rw[e1]at q;exact q
end
structure ye (d:PyData):Prop where
 rule:yi d=true
 nice:zZ 20011 d
 dep:d.depth<=2
 wn:zZ 5000 (pY d)
def zk (ds:List PyData):Prop:=∀d∈ds,ye d
theorem qA {s:Str}(h:s∈words):zZ 2000 (.str s):=by
 simp only[words,zN6,zP0,zR9]at h;rcases h with rfl|rfl|rfl|rfl|rfl|rfl|rfl<;>exact⟨rfl,rfl,zO5 _,by decide +kernel,by decide +kernel⟩
theorem ye.of {s:Str}{i j:Int}{d:PyData}(e:s∈words)(g:0<=i)(h:i<=j)(k:j<=1000000)(hw:zQ (.str s) d=true)(hn:zZ 5000 d)(hd:d.depth<=1):ye (.tuple [.str s,.int i,.int j,d]):=by
 have b:(1000001:Int)<big:=by decide
 have c:-big<(0:Int):=by decide
 have na:zX 5000 [.str s,.int i,.int j,d]:=by
  constructor
  ·intro x a;simp only[zN6,zP0,zR9]at a;rcases a with rfl|rfl|rfl|rfl
   ·exact(qA e).mono (by decide)
   ·exact(zZ.int (by lia) (by lia)).mono (by decide)
   ·exact(zZ.int (by lia) (by lia)).mono (by decide)
   ·exact hn
  ·intro x a;simp only[zN6,zP0,zR9]at a;rcases a with rfl|rfl|rfl|rfl
   ·exact zO5 _
   ·exact zO5 _
   ·exact zO5 _
   ·lia
 refine⟨?_,zZ.tuple na (by show 4*(5000+2)+3<=20011;decide),?_,hn⟩
 ·show(wJ (.tuple [.int i,.int j])&&zQ (.str s) d)=true;rw[hw,Bool.and_true];unfold wJ zt5;have f:(gO (.int i)&&gO (.int j))=true:=by
   show((decide (0<=i)&&decide (i<=1000000))&&(decide (0<=j)&&decide (j<=1000000)))=true;simp only[zR5,zZ2]
   lia
  simp only[f,z45,zZ2]
  lia
 ·simp only[PyData.depth,PyData.depthAll]
  lia
theorem zk.rules {ds:List PyData}(h:zk ds):Rules ds:=λd hd=>⟨(h d hd).rule,(h d hd).nice.shaped,(h d hd).nice.nod⟩
theorem zk.nice {ds:List PyData}(h:zk ds)(a:ds.length<=100):zZ sizeLine (.list ds):=by
 refine zZ.list (n:=20011) ⟨λd hd=>(h d hd).nice,λd hd=>by have:=(h d hd).dep;lia⟩ ?_;have b:ds.length*(20011+2)<=100*(20011+2):=z50 _ a;have c:100*(20011+2)+2<=sizeLine:=by decide
 lia
abbrev kZ :Stmt:=top 55
abbrev jT :Stmt:=top 56
abbrev dH :Stmt:=top 57
abbrev zo3 :Stmt:=top 59
theorem within_int {lo hi i:Int}(a:lo<=i)(b:i<=hi):yS lo hi (.int i)=true:=by
 show(decide (lo<=i)&&decide (i<=hi))=true;rw[zS0 a,zS0 b];rfl
theorem xG {i:Int}(h0:-2000000000000<=i)(a:i<=2000000000000):zZ 2000 (.int i):=zZ.int (by unfold big;lia) (by unfold big;lia)
def kY :Ph:=λas Q=>as=[.tape]/\∀z:Int,0<=z->z<=1000000000000->Q (.dat (.int z))
def rF :Ph:=λas Q=>∃a,as=[.tape,.dat (.str a)]/\a∈words/\∀d,zQ (.str a) d=true->zZ 5000 d->d.depth<=1->Q (.dat d)
def pZ :Ph:=λas Q=>∃y:Int,as=[.tape,.dat (.int y)]/\0<=y/\y<=1000000/\∀d,ye d->Q (.dat d)
def bK :Ph:=λas Q=>as=[.tape]/\∀z:Int,0<=z->z<=999990->Q (.dat (.int z))
section
variable {P:Program}{w:World}{K:PySem.W.Frag}{mg:Str->Option Value}{base:Heap}
theorem gH (F:FnD K mg "_law_coins" kZ ["_law_row"])(a:Cal P w K mg base "_law_take" 1 xp):Cal P w K mg base "_law_coins" 2 kY:=by
 refine yj ["_law_row","_law_few_here","_law_many","_law_great"] F λ_ _ _ _ _ _ _ _ Q nd hr h=>?_;obtain⟨rfl,q⟩:=h;and_intros;refine⟨.inl ⟨by decide,by decide⟩,?_⟩;and_intros;refine⟨.inr ⟨by decide,by decide⟩,?_⟩;and_intros;refine⟨.inl ⟨by decide,by decide⟩,?_⟩;and_intros;refine⟨⟨by decide,by decide +kernel⟩,pX rfl (by lia) (by show _<(5:Int);lia) ?_⟩
 repeat refine⟨q _ (by lia) (by lia),?_⟩
 trivial
theorem iX (F:FnD K mg "_law_worth" jT ["_law_row","_law_word"])(k:Cal P w K mg base "_law_take" 1 xp)(j:Cal P w K mg base "_law_coins" 2 kY):Cal P w K mg base "_law_worth" 3 rF:=by
 refine yj ["_law_row","_law_word","_law_many","_law_free","_law_coins_here"] F λ_ _ _ _ _ _ _ _ Q nd hr h=>?_;obtain⟨e,rfl,hw,q⟩:=h;have c:∀z:Int,0<=z->z<=1000000000000->zQ (.str e) (.int z)=true->Q (.dat (.int z)):=λz a b h=>q _ h ((xG (by lia) (by lia)).mono (by decide)) (zO5 _);have g:zQ (.str e) .none=true->Q (.dat .none):=λh=>q _ h (zZ.none.mono (by decide)) (zO5 _);have f:∀b,zQ (.str e) (.bool b)=true->Q (.dat (.bool b)):=λb h=>q _ h ((zZ.bool _).mono (by decide)) (zO5 _);simp only[words,zN6,zP0,zR9]at hw;rcases hw with rfl|rfl|rfl|rfl|rfl|rfl|rfl<;>and_intros
 ·refine⟨rfl,λz a b=>?_⟩;and_intros;refine ya (λ_=>?_) λ_=>?_<;>and_intros
  ·exact g rfl
  ·exact c z a b (within_int a b)
 ·exact f _ rfl
 ·exact f _ rfl
 iterate 2
  ·refine vW (λd=>∃z:Int,d=.int z/\0<z/\z<=14) rfl (by assumption) (by assumption) ⟨⟨_,rfl,by decide,by decide⟩,⟨_,rfl,by decide,by decide⟩,trivial⟩ ?_;rintro _ ⟨z,rfl,_,_⟩;and_intros;exact c _ (by lia) (by lia) (within_int (by lia) (by lia))
 ·refine vW (λd=>∃z:Int,d=.int z/\0<z/\z<=13) rfl (by assumption) (by assumption) ⟨⟨_,rfl,by decide,by decide⟩,⟨_,rfl,by decide,by decide⟩,trivial⟩ ?_;rintro _ ⟨z,rfl,_,_⟩;and_intros;have n:∀{i:Int},0<=i->i<=14->zZ 2000 (.int i):=λ_ _=>xG (by lia) (by lia);refine pX rfl (by assumption) (by assumption) ?_
  iterate 2 refine⟨q _ (zX2.mpr ⟨within_int (by lia) (by lia),within_int (by lia) (by lia)⟩) (zZ.tuple (n:=2000) (zX.two (n (by lia) (by lia)) (n (by lia) (by lia)) (zO5 _) (zO5 _)) (by show 2*(2000+2)+3<=5000;decide)) (zN5 _),?_⟩
  exact⟨g rfl,trivial⟩
 ·refine⟨rfl,λz a b=>?_⟩;and_intros;exact c z a b (within_int a b)
theorem bJ (F:FnD K mg "_law_rule" dH ["_law_row","_law_day_here"])(nb:NbT mg)(m:Cal P w K mg base "_law_take" 1 xp)(f:Cal P w K mg base "_law_worth" 3 rF):Cal P w K mg base "_law_rule" 4 pZ:=by
 refine yj ["_law_row","_law_day_here","_law_word","_law_ahead","_law_first","_law_last"] F λ_ _ _ _ _ _ _ _ Q nd hr h=>?_;obtain⟨y,rfl,e,g,q⟩:=h;and_intros;refine vW (λd=>∃x,d=.str x/\x∈words) rfl (by assumption) (by assumption) ?_ ?_
 ·repeat refine⟨⟨_,rfl,by simp[words]⟩,?_⟩
  trivial
 rintro _ ⟨j,rfl,hw⟩;and_intros;refine vW (λd=>∃z:Int,d=.int z) rfl (by assumption) (by assumption) ⟨⟨_,rfl⟩,⟨_,rfl⟩,⟨_,rfl⟩,⟨_,rfl⟩,trivial⟩ ?_;rintro _ ⟨k,rfl⟩;and_intros;refine vW (λd=>∃z:Int,d=.int z/\0<=z) rfl (by assumption) (by assumption) ⟨⟨_,rfl,by lia⟩,⟨_,rfl,by lia⟩,⟨_,rfl,by lia⟩,⟨_,rfl,by lia⟩,⟨_,rfl,by lia⟩,trivial⟩ ?_;rintro _ ⟨i,rfl,_⟩;and_intros;refine⟨hw,λl c a b=>?_⟩;and_intros;refine q _ (ye.of hw ?_ ?_ ?_ c a b)<;>repeat split
 all_goals lia
theorem zb5 (F:FnD K mg "_law_day" zo3 ["_law_row"])(a:Cal P w K mg base "_law_take" 1 xp):Cal P w K mg base "_law_day" 2 bK:=by
 refine yj ["_law_row"] F λ_ _ _ _ _ _ _ _ Q nd hr h=>?_;obtain⟨rfl,q⟩:=h;and_intros;refine pX rfl (by assumption) (by assumption) ?_
 repeat refine⟨q _ (by lia) (by lia),?_⟩
 trivial
end
theorem zk.snoc {ds:List PyData}{d:PyData}(h:zk ds)(hd:ye d):zk (ds++[d]):=λx a=>by
 rcases zP4.mp a with a|a
 ·exact h x a
 ·rw[zP8.mp a];exact hd
theorem zk.app {ds es:List PyData}(h:zk ds)(h':zk es):zk (ds++es):=λx a=>by
 rcases zP4.mp a with a|a
 ·exact h x a
 ·exact h' x a
theorem zk.nil :zk []:=λx a=>by simp at a
abbrev kT :Stmt:=top 9
def sv :Ph:=λas Q=>∃c g:Int,as=[.dat (.tuple [.int c,.int g])]/\-100<=c/\c<g/\g<=c+500/\c<=1000100/\Q (.own ((zp c (g-c).toNat).map .int))
section
variable {P:Program}{w:World}{K:PySem.W.Frag}{mg:Str->Option Value}{base:Heap}{cs:Cs}
theorem kF (F:FnD K mg "nights_of" kT ["stay"])(nb:NbT mg):Cal P w K mg base "nights_of" 1 sv:=by
 refine yj ["stay"] F λ_ _ _ _ _ _ _ _ Q nd hr h=>?_;obtain⟨c,g,rfl,a,b,d,e,q⟩:=h;exact vd (nv rfl (by rfl) nb.list (by rfl) nb.range (yz (λ_ _=>rfl) (zc 0 rfl (zL (⟨_,_,_,rfl,rfl,rfl,yz (λ_ _=>rfl) (zc 0 rfl (zL (⟨_,_,_,rfl,rfl,rfl,⟨_,_,rfl,rfl,⟨by lia,by lia,by lia,by lia⟩,by lia,q⟩⟩)))⟩)))))
end
abbrev yC :Stmt:=top 16
def qG :Arguments×Scope:=match zv yC with
 |[.Return (some (.Call _ _ [⟨_,.Lambda ps _ sc _,_⟩] _)) _]=>(ps,sc)
 |_=>(zP yC,zg yC)
section
variable {P:Program}{w:World}{K:PySem.W.Frag}{mg:Str->Option Value}{base:Heap}
theorem zd1 :zW ["prices","places"] ["prices","places"] (zg yC):=.o
theorem zH4 :xN "place" "prices" qG.1 qG.2:=⟨rfl,rfl,rfl,rfl,rfl,by decide +kernel,by decide +kernel,by decide⟩
theorem zy1 {f c:Addr}{b:Around}{outer:List Env}{s:Shared}{H:Hp}{E:XK}{n1:Nat}{p1 p2 p3 p4 p5 p6:Pos}(hhd:PySem.W.codeHdIn K c yn=true)(a:K.In base)(hbi:base.BuiltinsAt mg yn):
  bD (wx CX0 P w K mg base ["prices","places"] "cheapest_first" (zg yC) f (.ref c) b outer s H E).nox c "place" "prices" n1 p1 p2 p3 p4 p5 p6 qG.1 qG.2 where
 S:=zH4
 hy:=rfl
 hcl:=λcl h=>by
  have e:qG.2.names=[(("prices":Str),NameKind.free),(("place":Str),NameKind.local)]\/qG.2.names=[(("place":Str),NameKind.local),(("prices":Str),NameKind.free)]:=by decide +kernel
  unfold closureFor;rcases e with e|e<;>rw[e]<;>simp[cellOf,h]
 hgl:=rfl
 hco:=rfl
 hhd:=PySem.W.codeHd_of_K a hhd
 hbi:=hbi
 hdf:=rfl
 hq:=rfl
 hne:=by decide
 hb:=λu cl c' pm ctv=>rfl
 hdx:=by decide
 hdy:=by decide
 hcx:=by decide
 hcy:=by decide
def pR :Ph:=λas Q=>∃ns zs:List Int,as=[.dat (.list (zs.map .int)),.dat (.list (ns.map .int))]/\ns.length<64/\(∀n∈ns,0<=n/\n<zs.length)/\∀ms,uz ns zs ms->Q (.own (ms.map .int))
theorem iQ {f c:Addr}{oc:Value}{od an:Option Addr}{osl:Array (Option Value)}{kV doc pm ct:Value}(i:K.lookup f=some ⟨oc,od,.func (PySem.W.fnOf "cheapest_first" "cheapest_first" (zP yC) (zv yC) (zg yC) .none kV doc pm an (.ref c) ct),osl⟩)(d:PySem.W.codeIn K (.ref c) "cheapest_first"=true)(kp:PySem.W.keepIn K (.ref f)=true)
  (hm:mg "cheapest_first"=some (.ref f)) (hb:Binds K (PySem.W.fnOf "cheapest_first" "cheapest_first" (zP yC) (zv yC) (zg yC) .none kV doc pm an (.ref c) ct) ["prices","places"] []) (nb:NbT mg) (hhd:PySem.W.codeHdIn K c yn=true) (g:K.In base) (hbi:base.BuiltinsAt mg yn):Cal P w K mg base "cheapest_first" 3 pR:=by
 refine⟨f,_,_,hm,kp,hb,zL0 i d zd1 (λas Q h=>by obtain⟨ns,zs,rfl,_⟩:=h;rfl) λl outer s H E as Q hr h=>?_⟩;obtain⟨ns,zs,rfl,a,b,q⟩:=h;exact vd (kb (j:=0) (k:=0) (zy1 hhd g hbi) hr (by rfl) nb.sorted rfl (zc 1 rfl ⟨ns,zs,rfl,rfl,a,b,λms e=>q ms e⟩))
end
abbrev ug :Stmt:=top 17
def zA2 :Scope:=match zv ug with
 |.Assign _ (.ListComp _ _ sc _) _::_=>sc
 |_=>zg ug
def sD :Ph:=λas Q=>∃(zs:List Int) (d:PyData),as=[.dat (.list (zs.map .int)),.dat d]/\zs.length<=500/\
 ((d=.none/\Q (.own ((List.replicate zs.length false).map .bool)))\/∃many free:Nat,d=.tuple [.int many,.int free]/\0<many/\many<64/\∀bs,vo zs many free zs.length bs->Q (.own (bs.map .bool)))
theorem iM (ns:List Int):noLs (ns.map .int)=true:=by
 induction ns with
 |nil=>rfl
 |cons n ns a=>rw[zR6,noLs,a];rfl
section
variable {P:Program}{w:World}{K:PySem.W.Frag}{mg:Str->Option Value}{base:Heap}
theorem zF7 :zI ["prices","deal","marks","bundle","place","rank","other"] (zg ug) ["price"] [none] zA2:=⟨rfl,by decide +kernel,by decide +kernel,by decide +kernel,by decide +kernel,rfl,by decide +kernel⟩
theorem lA (F:FnD K mg "marked" ug ["prices","deal"])(nb:NbT mg)(O:Cal P w K mg base "cheapest_first" 3 pR):Cal P w K mg base "marked" 4 sD:=by
 refine yj ["prices","deal","marks","bundle","place","rank","other"] F λ_ _ R _ _ _ _ _ Q nd hr h=>?_;obtain⟨zs,d,rfl,hlen,h⟩:=h;refine bS 2 (pat:=.one 0) nd rfl zF7 rfl (λ_ _ _ _=>zD (i:=0) zF7.nd rfl (Or.inl rfl)) (yg (zc 0 rfl ⟨_,rfl,?_,?comp⟩))
 ·rw[zN0];lia
 refine xZ (λ_=>true) (λ_=>.bool false) (λd hd=>⟨_,rfl,λ_ _ _ _ _ k=>ku k,λ_ _ _ _ _ _ k=>cX k⟩) ?_;have L:([]:List PyData)++List.map (λ_=>PyData.bool false) (List.filter (λ_=>true) (List.map PyData.int zs))=(List.replicate zs.length false).map .bool:=by
  rw[zU9,cY,z60,List.map_replicate];exact List.eq_replicate_iff.mpr ⟨by simp,by simp⟩
 rw[L];rcases h with⟨rfl,q⟩|⟨many,free,rfl,g,m,q⟩
 ·refine xu (vI (zc 1 rfl ?_));exact xX 2 rfl q
 refine xu (vI (zc 1 rfl (zw ?_)));refine xx 3 nd (xQ (zu ⟨_,rfl,zO5 _,?_⟩));refine sE (pat:=.one 4) zY9 rfl (zD (i:=4) nd rfl (Or.inl rfl)) (xH (by rfl) nb.range (wF (by rfl) nb.len (zc 0 rfl ⟨_,rfl,⟨_,rfl,by lia,by rw[zN0];lia,?_⟩⟩)));refine zM (λi α=>∃(bs:List Bool) (C t s:Option A),vo zs many free i bs/\α=[some (.dat (.list (zs.map .int))),some (.dat (.tuple [.int many,.int free])),some (.own (bs.map .bool)),some (.own ((zp ((i / many*many:Nat):Int) (i % many)).map .int)),C,t,s]) ?_ ?_ ?_
 ·refine⟨_,none,none,none,qv zs free,?_⟩;rw[Nat.zero_mod,Nat.zero_div];rfl
 ·rintro i d α hd ⟨bs,C,t,s,mk,rfl⟩;have hi:i<zs.length:=by
   have:=(zN8.mp hd).1;simpa[zb]using this
  obtain rfl:d=.int (i:Int):=by
   rw[zO8,yB (by simpa using hi)]at hd;simpa using hd.symm
  refine⟨_,rfl,?_⟩;have G:=Nat.mod_lt i g;refine wW 3 rfl (zc 4 rfl ⟨by rw[zN0,zb];lia,?_⟩);have I:List.map PyData.int (zp ((i / many*many:Nat):Int) (i % many))++[PyData.int (i:Int)]=(zp ((i / many*many:Nat):Int) (i % many+1)).map .int:=by
   have e:=z59 i many;have J:i / many*many=many*(i / many):=Nat.mul_comm _ _;rw[oA,zY7]
   congr 1
   simp only[zR6,List.map_nil]
   congr 2
   lia
  rw[I];refine xu (vU 3 rfl (zu7 (wF (by rfl) nb.len (zc 3 rfl ⟨_,rfl,yz (λ_ _=>rfl) (zc 1 rfl (zL ⟨_,_,_,rfl,rfl,at0,_,_,rfl,rfl,?_⟩))⟩))));refine cp (λB=>?_) (λB=>zw ?_)
  ·have c:i % many+1=many:=by
    rw[zN0,zb]at B
    lia
   rw[c];have u:∀n∈zp ((i / many*many:Nat):Int) many,0<=n/\n<zs.length:=λn hn=>by
    rw[zK]at hn;have e:=z59 i many;have J:i / many*many=many*(i / many):=Nat.mul_comm _ _
    lia
   refine sE (pat:=.many [5,6]) zY9 rfl (xI (n:=2) (K:=K) rfl rfl (yb (zD (i:=5) nd rfl (Or.inl rfl)) (yb (zD (i:=6) nd rfl (Or.inl rfl)) (wb))))
    (jk (by rfl) nb.enumerate (EvL.d (za1 3 rfl (wK O hr (by rfl) (zl (zc 0 rfl (zl (zc 3 rfl (zu ⟨_,zs,rfl,by rw[zb];exact m,u,λms o=>⟨_,rfl,iM ms,_,rfl,?_⟩⟩)))))))))
   have x:ms.length=many:=by rw[o.1.length_eq,zb]
   refine zM (λr α=>∃(a:List Bool) (p5 p6:Option A),(a.length=bs.length/\(∀q,q<r->a.getD (ms.getD q 0).toNat false=decide (q<free))/\∀j,(∀q,q<r->(ms.getD q 0).toNat≠j)->a.getD j false=bs.getD j false)/\
    α=[some (.dat (.list (zs.map .int))),some (.dat (.tuple [.int many,.int free])),some (.own (a.map .bool)),some (.own ((zp ((i / many*many:Nat):Int) many).map .int)),some (.dat (.int i)),p5,p6]) ?_ ?_ ?_
   ·exact⟨bs,t,s,⟨rfl,λq h=>absurd h (z86 _),λ_ _=>rfl⟩,rfl⟩
   ·rintro r d α hd ⟨a,p5,p6,⟨f0,f1,f2⟩,rfl⟩;obtain⟨e,he,rfl⟩:=wU hd;have f:r<ms.length:=by
     have:=(zN8.mp he).1;simpa using this
    obtain rfl:e=.int (ms.getD r 0):=by
     rw[zO8,zN2 f]at he;rw[zN3,zN2 f];simpa using he.symm
    refine⟨_,rfl,?_⟩;have p:=xU o (q:=r) (by lia);have y:=u (ms.getD r 0) (zK.mpr p);obtain⟨j,v⟩:=zZ8 y.1;rw[v];have M:j<a.length:=by rw[f0,mk.1];lia
    refine cu 2 rfl (zn9 (zc 5 rfl (yz (λ_ _=>rfl) (zc 1 rfl (zL ⟨_,_,_,rfl,rfl,wV (j:=1) rfl,_,_,rfl,rfl,zc 6 rfl ⟨_,j,rfl,?_,zw ?_⟩⟩)))))
    ·unfold ixN;rw[if_pos (by lia),if_pos (by rw[zN0];lia)];simp
    ·refine⟨a.set j (decide (r<free)),some (.dat (.int ((0+r:Nat):Int))),some (.dat (.int (j:Int))),⟨?_,λq hq=>?_,λl E=>?_⟩,?_⟩
     ·rw[zS5,f0]
     ·by_cases D:q=r
      ·subst D;rw[v,zS2,zN3,zW1 M];rfl
      ·have hne:(ms.getD q 0).toNat≠j:=λz=>by
        have nd:ms.Nodup:=o.1.nodup_iff.mpr (uL _ _);have a1:=(xU o (q:=q) (by lia)).1;have H:ms.getD q 0=ms.getD r 0:=by rw[v];lia
        rw[zN3,zN3,zN2 (by lia),zN2 f]at H;exact(zV4.mp nd q r (by lia) f (by lia)) H
       rw[zN3,zT6 hne.symm,<-zN3,f1 q (by lia)]
     ·have hne:j≠l:=λz=>E r (zT3 _) (by rw[v];lia);rw[zN3,zT6 hne,<-zN3,f2 l λq hq=>E q (by lia)]
     ·have N:decide (((0+r:Nat):Int)<(free:Int))=decide (r<free):=by rw[decide_eq_decide];lia
      rw[N,List.map_set];rfl
   ·rintro α ⟨a,p5,p6,⟨f0,f1,f2⟩,rfl⟩;refine xx 3 nd (xQ (zu ⟨_,rfl,zO5 _,zw ?_⟩));rw[vc,zN0,x]at f1 f2;refine zw ?_;refine⟨a,some (.dat (.int i)),p5,p6,qI g c mk o f0 f1 f2,?_⟩;rw[(sk g c).2.1];rfl
  ·have b:i % many+1<many:=by
    rw[zN0,zb]at B
    lia
   refine zw ?_;refine⟨bs,some (.dat (.int i)),t,s,qJ g b mk,?_⟩;rw[(rP g b).1,(rP g b).2];rfl
 ·rintro α ⟨bs,C,t,s,mk,rfl⟩;have el:(List.map PyData.int (zp 0 ((List.map PyData.int zs).length:Int).toNat)).length=zs.length:=by simp[zb]
  rw[el]at mk;exact xX 2 rfl (q bs mk)
end
abbrev sNP :Stmt:=top 18
abbrev sW :Stmt:=top 19
def aj :Scope:=match (zv sW).getD 5 (.Pass ⟨0,0,0,0⟩)with
 |.Assign _ (.Call _ [.ListComp _ _ sc _] _ _) _=>sc
 |_=>zg sW
def zD3 (C:Addr)(cs:Cs):Ph:=λas Q=>∃(ds:List PyData) (ns:List Int) (pr:Int->Int),as=[.dat (yx C cs ds),.dat (.list (ns.map .int))]/\Rules ds/\ns.length<=900/\(∀z∈ns,zh ds "price" z=.int (pr z))/\Q (.own ((ns.map pr).map .int))
def dX (C:Addr)(cs:Cs):Ph:=λas Q=>∃(ds:List PyData) (c g fee:Int) (pr:Int->Int),as=[.dat (yx C cs ds),.dat (.tuple [.int c,.int g])]/\Rules ds/\0<=c/\c<g/\g<=c+400/\c<=1000000/\(∀z,c<=z->z<g->zh ds "price" z=.int (pr z)/\0<=pr z/\pr z<=1000000000000)/\
 (zh ds "deal" c=.none\/∃many free:Nat,zh ds "deal" c=.tuple [.int many,.int free]/\0<many/\many<64)/\zh ds "fee" c=.int fee/\
 ∀bs,yL (zh ds "deal" c) ((zp c (g-c).toNat).map pr) bs->Q (.dat (.tuple [.int ((zC ((zp c (g-c).toNat).map pr) bs).sum+fee),.list (xJ ((zp c (g-c).toNat).map .int) (((zp c (g-c).toNat).map pr).map .int) (bs.map .bool)),.int fee]))
section
variable {P:Program}{w:World}{K:PySem.W.Frag}{mg:Str->Option Value}{base:Heap}{cs:Cs}
theorem zp5 {C:Addr}(F:FnD K mg "night_prices" sNP ["book","nights"])(c:xt P w K mg base C "tells_of" 2 (sf C cs)):Cal P w K mg base "night_prices" 3 (zD3 C cs):=by
 refine yj ["book","nights","prices","night","price"] F λ_ _ k _ _ _ _ _ Q nd hr h=>?_;obtain⟨ds,ns,pr,rfl,g,j,f,q⟩:=h;refine xx 2 nd (xQ (zu ⟨_,rfl,zO5 _,?_⟩));refine sE (pat:=.one 3) zY9 rfl (zD (i:=3) nd rfl (Or.inl rfl)) (yg (zc 1 rfl ⟨_,rfl,?_⟩));refine zM (λi α=>∃b a:Option A,α=[some (.dat (yx C cs ds)),some (.dat (.list (ns.map .int))),some (.own (((ns.take i).map pr).map .int)),b,a]) ⟨none,none,rfl⟩ ?_ ?_
 ·rintro i d α hd ⟨b,a,rfl⟩;rw[zO8,zQ0]at hd;obtain⟨z,hz,rfl⟩:=hd;have hi:i<ns.length:=(zN8.mp hz).1;have e:=f z (zR1 hz);refine⟨_,rfl,?_⟩;refine zY 4 nd (vf c hr (zc 0 rfl ⟨_,rfl,rfl,zl (vL (zl (zc 3 rfl (zu ⟨ds,_,_,rfl,g,by simp[words],?_⟩))))⟩));show SvS _ (List.set _ _ (some (.dat (zh ds "price" z)))) _ _;rw[e];refine xu (vI (zc 4 rfl ?_));refine ya (λh=>by cases h) (λ_=>zw ?_);refine wW 2 rfl (zc 4 rfl ⟨by rw[zN0,zN0,zP7];lia,zw ⟨some (.dat (.int z)),some (.dat (.int (pr z))),?_⟩⟩);rw[zZ3,hz,zY7,zY7];rfl
 ·rintro α ⟨b,a,rfl⟩;rw[zN0,zU3];exact xX 2 rfl q
theorem zC8 :zI ["book","stay","nights","prices","marks","fee","rows","paid"] (zg sW) ["row"] [none] aj:=⟨rfl,by decide +kernel,by decide +kernel,by decide +kernel,by decide +kernel,rfl,by decide +kernel⟩
theorem bW {C:Addr}(F:FnD K mg "bill" sW ["book","stay"])(nb:NbT mg)(u:xt P w K mg base C "tells_of" 2 (sf C cs))(B:Cal P w K mg base "nights_of" 1 sv)(G:Cal P w K mg base "night_prices" 3 (zD3 C cs))(I:Cal P w K mg base "marked" 4 sD):
  Cal P w K mg base "bill" 5 (dX C cs):=by
 refine yj ["book","stay","nights","prices","marks","fee","rows","paid"] F λf cdv A outer s H E _ Q nd hr h=>?_;obtain⟨ds,c,g,fee,pr,rfl,r,O,L,gl,M,e,a,l,q⟩:=h;generalize hn:(g-c).toNat=n at q;have D:0<n:=by lia
 have v:n<=400:=by lia
 refine zY 2 nd (EvL.d (wK B (hr.mono (by decide)) (by rfl) (zl (zc 1 rfl (zu ⟨c,g,rfl,by lia,L,by lia,by lia,_,rfl,?_⟩)))));rw[hn];refine zY 3 nd (EvL.d (wK G (hr.mono (by decide)) (by rfl) (zl (zc 0 rfl (zl (zc 2 rfl (zu ⟨ds,zp c n,pr,rfl,r,by rw[zb];lia,λz hz=>(e z (zK.mp hz).1 (by have:=(zK.mp hz).2;lia)).1,_,rfl,?_⟩)))))));have m:((zp c n).map pr).length=n:=by rw[zN0,zb]
 refine zY 4 nd (EvL.d (wK I hr (by rfl) (zl (zc 3 rfl (zl (vf u (hr.mono (by decide)) (zc 0 rfl ⟨_,rfl,rfl,zl (vL (zl (yz (λ_ _=>rfl) (zc 1 rfl (zL ⟨_,_,_,rfl,rfl,at0,zu ⟨ds,_,_,rfl,r,by simp[words],zu ⟨_,_,rfl,by lia,?_⟩⟩⟩)))))⟩)))))));have key:∀bs,yL (zh ds "deal" c) ((zp c n).map pr) bs->SvS (wx CX0 P w K mg base ["book","stay","nights","prices","marks","fee","rows","paid"] "bill" (zg sW) f cdv A outer s H E).nox
   [some (.dat (yx C cs ds)),some (.dat (.tuple [.int c,.int g])),some (.dat (.list ((zp c n).map .int))),some (.dat (.list (((zp c n).map pr).map .int))),some (.dat (.list (bs.map .bool))),none,none,none] ((zv sW).drop 3) {nx:=λ_=>Q (.dat .none),rt:=Q}:=by
  intro bs mk;have p:=mk.len;refine zY 5 nd (vf u (hr.mono (by decide)) (zc 0 rfl ⟨_,rfl,rfl,zl (vL (zl (yz (λ_ _=>rfl) (zc 1 rfl (zL ⟨_,_,_,rfl,rfl,at0,zu ⟨ds,_,_,rfl,r,by simp[words],?_⟩⟩)))))⟩));show SvS _ (List.set _ _ (some (.dat (zh ds "fee" c)))) _ _;rw[l];refine zY 6 nd (EvL.d (oZ rfl (by rfl) nb.list (by rfl) nb.zip (zl (zc 2 rfl (zl (zc 3 rfl (zl (zc 4 rfl (zu ⟨_,_,_,rfl,?_,?_,?_,?_,?_⟩)))))))))
  ·rw[zN0,zN0,zN0]
  ·rw[zN0,zN0,p,m,zb]
  ·rw[zN0,zb];lia
  ·rw[zN0,zb];lia
  have pm:∀z∈zC ((zp c n).map pr) bs,0<=z/\z<=1000000000000:=λz hz=>by
   obtain⟨y,hy,rfl⟩:=zY6.mp (uw hz);have hy:=zK.mp hy;exact(e y hy.1 (by lia)).2
  refine zY 7 nd (tV rfl (by rfl) nb.sum (EvL.d (ef (pat:=.one 0) rfl zC8 rfl (λ_ _ _ _=>zD (i:=0) zC8.nd rfl (Or.inl rfl)) (yg (zc 6 rfl ⟨_,rfl,?_,?comp⟩)))))
  ·rw[uU (by rw[zN0,zN0,zN0]) (by rw[zN0,zN0,p,m,zb]),zN0,zb];lia
  refine xZ (λd=>!tP d) (zt3 1) (λd hd=>?_) ?_
  ·obtain⟨j,J⟩:=List.mem_iff_getElem?.mp hd;obtain⟨x,y,z,e1,N,t,rfl⟩:=uJ J;rw[zO8,zQ0]at t;obtain⟨b,_,rfl⟩:=t;exact⟨_,rfl,λ_ _ _ _ _ k=>sN (ba (eH (yz (λ_ _=>rfl) (zc 0 rfl (zL ⟨_,_,_,rfl,rfl,wV (j:=2) rfl,⟨_,rfl,k⟩⟩))))),λ_ _ _ _ _ _ k=>yz (λ_ _=>rfl) (zc 0 rfl (zL ⟨_,_,_,rfl,rfl,wV (j:=1) rfl,k⟩))⟩
  ·rw[zU9,sr (by rw[m,zN0,zb]) (by rw[p,m,zN0,zb])];refine⟨_,rfl,λz hz=>by have:=pm z hz;lia,rN pm (zO0 (qK _ _) (by lia)),?_⟩;exact yI (vF (zl (uB (zc 7 rfl (zc 5 rfl ⟨_,_,rfl,rfl,zl (zc 6 rfl (zl (zc 5 rfl (zu ⟨_,rfl,zR3 rfl,q bs mk⟩))))⟩)))))
 rcases a with hd|⟨many,free,hd,m0,o⟩
 ·exact .inl ⟨hd,⟨_,rfl,key _ (.inl ⟨hd,rfl⟩)⟩⟩
 ·exact .inr ⟨many,free,hd,m0,o,λbs mk=>⟨_,rfl,key bs (.inr ⟨many,free,hd,mk⟩)⟩⟩
end
abbrev nP :Stmt:=top 21
abbrev zA4 :Stmt:=top 22
abbrev zH8 :Stmt:=top 23
theorem gh {x:Str}(h:x∈words):zQ (.str x) (iH x)=true:=by
 simp only[words,zN6,zP0,zR9]at h;rcases h with rfl|rfl|rfl|rfl|rfl|rfl|rfl<;>decide +kernel
theorem yq {ds:List PyData}(h:∀d∈ds,yi d=true){x:Str}(b:x∈words)(day:Int):zQ (.str x) (zh ds x day)=true:=by
 unfold zh;split
 ·rename_i d e;obtain⟨u,i,j,v,c,rfl,_,_,_,hw⟩:=zS (h d (List.mem_reverse.mp (List.mem_of_find?_eq_some e)));have:=List.find?_some e;have a:(decide (u=x)&&(decide (i<=day)&&decide (day<=j)))=true:=this;rw[zR5,zZ2]at a;rw[<-a.1];exact hw
 ·exact gh b
def isF :PyData->Bool
 |.bool b=>!b
 |_=>false
def intOf :PyData->Int
 |.int i=>i
 |_=>0
section
variable {ds:List PyData}(h:∀d∈ds,yi d=true)(day:Int)
include h
theorem fZ :∃b,zh ds "come" day=.bool b:=bool_inv (by rw[<-mE];exact yq h (by simp[words]) day)
theorem zI2 :∃b,zh ds "go" day=.bool b:=bool_inv (by rw[<-eO];exact yq h (by simp[words]) day)
theorem jd :∃i,zh ds "least" day=.int i/\1<=i/\i<=14:=zB (by rw[<-oE];exact yq h (by simp[words]) day)
theorem eL :∃i,zh ds "most" day=.int i/\1<=i/\i<=14:=zB (by rw[<-kI];exact yq h (by simp[words]) day)
theorem zz4 :∃i,zh ds "fee" day=.int i/\0<=i/\i<=1000000000000:=zB (by
 have:=yq h (x:="fee") (by simp[words]) day;rw[hV]at this;exact this)
theorem jm :zh ds "price" day=.none\/∃i,zh ds "price" day=.int i/\0<=i/\i<=1000000000000:=by
 have:=yq h (x:="price") (by simp[words]) day;rw[mh,z38]at this;rcases this with z|z
 ·left;cases e:zh ds "price" day with
  |none=>rfl
  |_=>rw[e]at z;cases z
 ·exact .inr (zB z)
end
def pB (x:Str)(d:Int):PyData:=.tuple [.str x,.int d]
def xg (ds:List PyData)(c:Int)(n:Nat):List PyData:=((zp c n).filter λz=>yZ (zh ds "price" z)).map (pB "price")
def opt (b:Bool)(d:PyData):List PyData:=if b=true then [d]else []
def wj (ds:List PyData)(c g:Int):List PyData:=xg ds c (g-c).toNat++opt (isF (zh ds "come" c)) (pB "come" c)++opt (isF (zh ds "go" g)) (pB "go" g)++opt (decide (g-c<intOf (zh ds "least" c))) (pB "least" c)++opt (decide (intOf (zh ds "most" c)<g-c)) (pB "most" c)
theorem vV (b:Bool)(d:PyData):(opt b d).length<=1:=by unfold opt;split<;>simp
theorem tm (ds:List PyData)(c:Int)(n:Nat):(xg ds c n).length<=n:=by
 unfold xg;rw[zN0];have:=z79 (λz=>yZ (zh ds "price" z)) (zp c n);rw[zb]at this;exact this
def dC (C:Addr)(cs:Cs):Ph:=λas Q=>∃ds c g,as=[.dat (yx C cs ds),.dat (.tuple [.int c,.int g])]/\Rules ds/\-100<=c/\c<g/\g<=c+100/\c<=1000100/\Q (.own (wj ds c g))
def zf8 :Scope:=match zv nP with
 |[_,_,.Assign _ (.ListComp _ _ sc _) _,_,_,_,_,_]=>sc
 |_=>zg nP
section
variable {P:Program}{w:World}{K:PySem.W.Frag}{mg:Str->Option Value}{base:Heap}{cs:Cs}
theorem zG7 :zI ["book","stay","come","go","told"] (zg nP) ["night","book"] [none,some 0] zf8:=⟨rfl,by decide +kernel,by decide +kernel,by decide +kernel,by decide +kernel,rfl,by decide +kernel⟩
theorem nO (ds:List PyData)(ns:List Int)(f:PyData->Bool)(hf:∀z,f (.int z)=yZ (zh ds "price" z))(g:PyData->PyData)(hg:∀z,g (.int z)=pB "price" z):((ns.map PyData.int).filter f).map g=(ns.filter λz=>yZ (zh ds "price" z)).map (pB "price"):=by
 rw[List.filter_map,z60];have e1:(f∘PyData.int)=λz=>yZ (zh ds "price" z):=funext hf;have a:(g∘PyData.int)=pB "price":=funext hg;rw[e1,a]
def zB7 :PyData->Int
 |.int z=>z
 |_=>0
abbrev pW (C:Addr)(cs:Cs)(ds:List PyData)(c g:Int)(l:List PyData):List (Option A):=[some (.dat (yx C cs ds)),some (.dat (.tuple [.int c,.int g])),some (.dat (.int c)),some (.dat (.int g)),some (.own l)]
theorem bp {C:Addr}(F:FnD K mg "bars" nP ["book","stay"])(s:Cal P w K mg base "nights_of" 1 sv)(p:xt P w K mg base C "tells_of" 2 (sf C cs)):Cal P w K mg base "bars" 3 (dC C cs):=by
 refine yj ["book","stay","come","go","told"] F λ_ _ _ _ _ _ _ _ Q nd hr h=>?_;obtain⟨ds,c,g,rfl,e,v,x,g1,u,q⟩:=h;have j:∀d∈ds,yi d=true:=λd hd=>(e d hd).1;refine zY 2 nd (yz (λ_ _=>rfl) (zc 1 rfl (zL (⟨_,_,_,rfl,rfl,rfl,?_⟩))));refine zY 3 nd (yz (λ_ _=>rfl) (zc 1 rfl (zL (⟨_,_,_,rfl,rfl,rfl,?_⟩))));refine xo (·=pW C cs ds c g (xg ds c (g-c).toNat)) ?_ ?_
 ·refine bS 4 (pat:=.one 0) nd rfl zG7 rfl (λ_ _ _ _=>zD (i:=0) zG7.nd rfl (by first|exact Or.inl rfl|exact Or.inr rfl)) (yg (EvL.d (wK s (hr.mono (by decide)) (by rfl) (zl (zc 1 rfl (zu (⟨c,g,rfl,by lia,by lia,by lia,by lia,⟨_,rfl,⟨_,rfl,⟨by rw[zN0,zb];lia,?comp⟩⟩⟩⟩)))))))
  case comp=>
   refine xZ (λd=>yZ (zh ds "price" (zB7 d))) (λd=>pB "price" (zB7 d)) (λd hd=>?_) ?_
   ·obtain⟨z,_,rfl⟩:=zY6.mp hd;refine⟨_,rfl,λC s2 t fp Q k=>sN (vI (vf p hr (zc 1 rfl ⟨_,rfl,rfl,zl (vL (zl (zc 0 rfl (zu ⟨ds,_,_,rfl,e,by simp[words],k⟩))))⟩))),λ_ C s2 t fp Q k=>vF (zl (vL (zl (zc 0 rfl (zu (⟨_,rfl,zR3 rfl,k⟩))))))⟩
   ·refine zw ?_;rw[zU9,nO ds _ _ (λ_=>rfl) _ (λ_=>rfl)];rfl
 rintro α rfl;have r:=tm ds c (g-c).toNat;obtain⟨o,f⟩:=fZ j c;obtain⟨m,n⟩:=zI2 j g;obtain⟨a,el,_,_⟩:=jd j c;obtain⟨im,em,_,_⟩:=eL j c;have B:∀(l:List PyData) (b:Bool) (d:PyData) (k:Nat),l.length<=k->(l++opt b d).length<=k+1:=λl b d k h=>by have:=vV b d;rw[zQ5];lia
 have l1:=B _ (isF (zh ds "come" c)) (pB "come" c) _ r;have l2:=B _ (isF (zh ds "go" g)) (pB "go" g) _ l1;have l3:=B _ (decide (g-c<intOf (zh ds "least" c))) (pB "least" c) _ l2;unfold wj at q;rw[f,n,el,em]at q;rw[f,n,el]at l3;rw[f,n]at l2;rw[f]at l1;refine xo (·=pW C cs ds c g (xg ds c (g-c).toNat++opt (isF (.bool o)) (pB "come" c))) ?_ ?_
 ·and_intros;refine⟨ds,_,_,rfl,e,by simp[words],⟨o,by rw[f];rfl,?_⟩⟩;cases o<;>and_intros
  ·exact⟨by lia,zw (zw rfl)⟩
  ·exact congrArg (pW C cs ds c g) (zU0 _).symm
 rintro α rfl;generalize xg ds c (g-c).toNat++opt (isF (.bool o)) (pB "come" c)=acc at *;refine xo (·=pW C cs ds c g (acc++opt (isF (.bool m)) (pB "go" g))) ?_ ?_
 ·and_intros;refine⟨ds,_,_,rfl,e,by simp[words],⟨m,by rw[n];rfl,?_⟩⟩;cases m<;>and_intros
  ·exact⟨by lia,zw (zw rfl)⟩
  ·exact congrArg (pW C cs ds c g) (zU0 _).symm
 rintro α rfl;generalize acc++opt (isF (.bool m)) (pB "go" g)=acc at *;refine xo (·=pW C cs ds c g (acc++opt (decide (g-c<a)) (pB "least" c))) ?_ ?_
 ·and_intros;refine⟨ds,_,_,rfl,e,by simp[words],⟨_,a,rfl,el,?_⟩⟩;generalize decide (g-c<a)=b;cases b<;>and_intros
  ·exact congrArg (pW C cs ds c g) (zU0 _).symm
  ·exact⟨by lia,zw (zw rfl)⟩
 rintro α rfl
 change (acc++opt (decide (g-c<a)) (pB "least" c)).length<=_ at l3
 change Q (.own (acc++opt (decide (g-c<a)) (pB "least" c)++_))at q
 generalize acc++opt (decide (g-c<a)) (pB "least" c)=acc at *;refine xo (·=pW C cs ds c g (acc++opt (decide (im<g-c)) (pB "most" c))) ?_ ?_
 ·and_intros;refine⟨ds,_,_,rfl,e,by simp[words],⟨_,im,rfl,em,?_⟩⟩;generalize decide (im<g-c)=b;cases b<;>and_intros
  ·exact congrArg (pW C cs ds c g) (zU0 _).symm
  ·exact⟨by lia,zw (zw rfl)⟩
 rintro α rfl;exact xX 4 rfl q
end
theorem cT {d:PyData}(h:rR d=true):∃many free:Nat,d=.tuple [.int many,.int free]/\0<free/\free<many/\many<64:=by
 unfold rR at h;split at h
 ·rename_i m r;rw[zR5]at h;obtain⟨i,e,c,i1⟩:=zB h.1;obtain⟨j,a,b,f⟩:=zB h.2;subst a;injection e with e;subst e;refine⟨m.toNat,j.toNat,?_,by lia,by lia,by lia⟩;rw[show((m.toNat:Nat):Int)=m by lia,show((j.toNat:Nat):Int)=j by lia]
 ·cases h
theorem pz {ds:List PyData}(h:∀d∈ds,yi d=true)(day:Int):pN (zh ds "deal" day):=by
 have:=yq h (x:="deal") (by simp[words]) day;rw[kl,z38]at this;rcases this with z|z
 ·left;cases e:zh ds "deal" day with
  |none=>rfl
  |_=>rw[e]at z;cases z
 ·exact .inr (cT z)
theorem zk.all {ds:List PyData}(h:zk ds):∀d∈ds,yi d=true:=λd hd=>(h d hd).rule
def pU (ds:List PyData)(c g:Int):Prop:=∀z,c<=z->z<g->yZ (zh ds "price" z)=false
def prs (ds:List PyData)(c g:Int):List Int:=(zp c (g-c).toNat).map λz=>intOf (zh ds "price" z)
def wm (ds:List PyData)(c:Int):Int:=intOf (zh ds "fee" c)
theorem vB {ds:List PyData}{c g z:Int}(h:zk ds)(s:pU ds c g)(h0:c<=z)(a:z<g):zh ds "price" z=.int (intOf (zh ds "price" z))/\0<=intOf (zh ds "price" z)/\intOf (zh ds "price" z)<=1000000000000:=by
 rcases jm h.all z with e|⟨i,e,b,i1⟩
 ·have:=s z h0 a;rw[e]at this;cases this
 ·rw[e];exact⟨rfl,b,i1⟩
theorem jx {ds:List PyData}(h:zk ds)(c:Int):zh ds "fee" c=.int (wm ds c)/\0<=wm ds c/\wm ds c<=1000000000000:=by
 obtain⟨i,e,a,i1⟩:=zz4 h.all c;unfold wm;rw[e];exact⟨rfl,a,i1⟩
def rW (c g:Int):Prop:=0<=c/\c<g/\g<=c+14/\g<=1000000
def jO (C:Addr)(cs:Cs):Ph:=λas Q=>∃(ds:List PyData) (c g:Int),as=[.dat (yx C cs ds),.dat (.tuple [.int c,.int g])]/\zk ds/\rW c g/\pU ds c g/\
 ∀bs rows,yL (zh ds "deal" c) (prs ds c g) bs->Q (.dat (.tuple [.int ((zC (prs ds c g) bs).sum+wm ds c),rows,.int (wm ds c)]))
def si (ds:List PyData)(c g:Int):Bool:=(wj ds c g).isEmpty
noncomputable def eY (ds:List PyData)(c g:Int):List Bool:=Classical.epsilon λbs=>yL (zh ds "deal" c) (prs ds c g) bs
noncomputable def coD (ds:List PyData)(c g:Int):Int:=(zC (prs ds c g) (eY ds c g)).sum+wm ds c
noncomputable def coO (ds:List PyData)(c g:Int):Option Int:=if si ds c g=true then some (coD ds c g)else none
def oD :Option Int->PyData
 |some z=>.int z
 |none=>.none
theorem pA {ds:List PyData}{c g y:Int}(a:zk ds)(so:pU ds c g)(h:y∈prs ds c g):0<=y/\y<=1000000000000:=by
 obtain⟨z,hz,rfl⟩:=zY6.mp h;have hz:=zK.mp hz;exact(vB a so hz.1 (by lia)).2
theorem zD9 {ds:List PyData}{c g:Int}{bs:List Bool}(a:zk ds)(so:pU ds c g)(mk:yL (zh ds "deal" c) (prs ds c g) bs):(zC (prs ds c g) bs).sum+wm ds c=coD ds c g:=by
 have b:yL (zh ds "deal" c) (prs ds c g) (eY ds c g):=Classical.epsilon_spec (p:=λbs=>yL (zh ds "deal" c) (prs ds c g) bs) ⟨bs,mk⟩;have:=mM (e:=0) mk b (pz a.all c) rfl (by simp) (λi hi=>zV3 _) (λz hz=>(pA a so hz).1) λz hz=>(pA a so hz).1;unfold coD
 lia
theorem xw {α:Type}{a b:List α}:(a++b).isEmpty=(a.isEmpty&&b.isEmpty):=by cases a<;>rfl
theorem tW {b:Bool}{d:PyData}:(opt b d).isEmpty=!b:=by cases b<;>rfl
theorem xv {ds:List PyData}{c g:Int}:si ds c g=true↔pU ds c g/\isF (zh ds "come" c)=false/\isF (zh ds "go" g)=false/\¬g-c<intOf (zh ds "least" c)/\¬intOf (zh ds "most" c)<g-c:=by
 unfold si wj;rw[xw,xw,xw,xw,tW,tW,tW,tW];have:(xg ds c (g-c).toNat).isEmpty=true↔pU ds c g:=by
  unfold xg pU;rw[List.isEmpty_iff,List.map_eq_nil_iff,List.filter_eq_nil_iff];refine⟨λh z a b=>?_,λh z hz=>?_⟩
  ·have:=h z (zK.mpr ⟨a,by lia⟩);simpa using this
  ·have hz:=zK.mp hz;rw[h z hz.1 (by lia)];decide
 simp only[zR5,this,Bool.not_eq_true',zX3,and_assoc]
theorem oS {ds:List PyData}{c g:Int}(h:si ds c g=true):pU ds c g:=(xv.mp h).1
theorem nA {ds:List PyData}{c g:Int}(e:c<=g){d:PyData}(h:d∈wj ds c g):∃(x:Str) (z:Int),d=pB x z/\x∈words/\c<=z/\z<=g:=by
 unfold wj at h;simp only[zP4]at h;have a:∀{b:Bool} {x:Str} {z:Int},d∈opt b (pB x z)->d=pB x z:=λ{b x z} h=>by
  cases b
  ·simp[opt]at h
  ·simpa[opt]using h
 rcases h with(((h|h)|h)|h)|h
 ·obtain⟨z,hz,rfl⟩:=zY6.mp h;have hz:=zK.mp (z08.mp hz).1;exact⟨_,z,rfl,by simp[words],hz.1,by lia⟩
 ·exact⟨_,c,a h,by simp[words],by lia,by lia⟩
 ·exact⟨_,g,a h,by simp[words],by lia,by lia⟩
 ·exact⟨_,c,a h,by simp[words],by lia,by lia⟩
 ·exact⟨_,c,a h,by simp[words],by lia,by lia⟩
theorem jn {x:Str}{z:Int}(c:x∈words)(h0:-100<=z)(d:z<=2000000):zZ 5000 (pB x z)/\(pB x z).depth<=1:=by
 have a:(2000001:Int)<big:=by decide
 have b:-big<(-100:Int):=by decide
 exact⟨zZ.tuple (n:=2000) (zX.two (qA c) (zZ.int (by lia) (by lia)) (zO5 _) (zO5 _)) (by show 2*(2000+2)+3<=5000;decide),by simp[pB,PyData.depth,PyData.depthAll]⟩
theorem fv {ds:List PyData}{c g:Int}:(wj ds c g).length<=(g-c).toNat+4:=by
 unfold wj;simp only[zQ5];have h0:=tm ds c (g-c).toNat;have b:=vV (isF (zh ds "come" c)) (pB "come" c);have d:=vV (isF (zh ds "go" g)) (pB "go" g);have e:=vV (decide (g-c<intOf (zh ds "least" c))) (pB "least" c);have a:=vV (decide (intOf (zh ds "most" c)<g-c)) (pB "most" c)
 lia
theorem qS {ds:List PyData}{c g:Int}(sb:rW c g):zZ sizeLine (.list (wj ds c g)):=by
 obtain⟨i,j,g1,g2⟩:=sb;refine zZ.list (n:=5000) ⟨λd hd=>?_,λd hd=>?_⟩ ?_
 ·obtain⟨x,z,rfl,e,a,b⟩:=nA (by lia) hd;exact(jn e (by lia) (by lia)).1
 ·obtain⟨x,z,rfl,e,a,b⟩:=nA (by lia) hd;have:=(jn e (z:=z) (by lia) (by lia)).2
  lia
 ·have f:(wj ds c g).length*(5000+2)<=18*(5000+2):=z50 _ (by have:=fv (ds:=ds) (c:=c) (g:=g);lia);have h:18*(5000+2)+2<=sizeLine:=by decide
  lia
theorem aC {ds:List PyData}:PyData.eqv (.list ds) (.list [])=ds.isEmpty:=by
 cases ds<;>rfl
def zk2 (C:Addr)(cs:Cs):Ph:=λas Q=>∃(ds:List PyData) (c g:Int),as=[.dat (yx C cs ds),.dat (.tuple [.int c,.int g])]/\zk ds/\rW c g/\Q (.dat (.bool (si ds c g)))
def zi1 (C:Addr)(cs:Cs):Ph:=λas Q=>∃(ds:List PyData) (c g:Int),as=[.dat (yx C cs ds),.dat (.tuple [.int c,.int g])]/\zk ds/\rW c g/\Q (.dat (oD (coO ds c g)))
section
variable {P:Program}{w:World}{K:PySem.W.Frag}{mg:Str->Option Value}{base:Heap}{cs:Cs}
theorem iW {C:Addr}(k:Cal P w K mg base "bill" 5 (dX C cs)):Cal P w K mg base "bill" 5 (jO C cs):=by
 refine k.imp λas Q h=>?_;obtain⟨ds,c,g,rfl,a,⟨d,l,g1,g2⟩,so,q⟩:=h;refine⟨ds,c,g,wm ds c,λz=>intOf (zh ds "price" z),rfl,a.rules,d,l,by lia,by lia,λz j b=>vB a so j b,?_,(jx a c).1,λbs mk=>q bs _ mk⟩;rcases pz a.all c with e|⟨m,f,e,f0,n,i⟩
 ·exact .inl e
 ·exact .inr ⟨m,f,e,by lia,i⟩
theorem zf6 {C:Addr}(F:FnD K mg "can_be_had" zA4 ["book","stay"])(f:Cal P w K mg base "bars" 3 (dC C cs)):Cal P w K mg base "can_be_had" 4 (zk2 C cs):=by
 refine yj ["book","stay"] F λ_ _ e _ _ _ _ _ Q nd hr h=>?_;obtain⟨ds,c,g,rfl,a,sb,q⟩:=h;obtain⟨b,i,g1,g2⟩:=id sb;and_intros;refine⟨ds,c,g,rfl,a.rules,by lia,by lia,by lia,by lia,?_⟩;and_intros;exact eqk (qS sb).shaped rfl (qS sb).nod rfl (by rw[show PyData.eqv (A.own (wj ds c g)).d (.list [])=si ds c g from aC];exact q)
theorem aZ {C:Addr}(F:FnD K mg "cost_or_none" zH8 ["book","stay"])(d:Cal P w K mg base "can_be_had" 4 (zk2 C cs))(b:Cal P w K mg base "bill" 5 (jO C cs)):Cal P w K mg base "cost_or_none" 6 (zi1 C cs):=by
 refine yj ["book","stay"] F λ_ _ _ _ _ _ _ _ Q nd hr h=>?_;obtain⟨ds,c,g,rfl,a,sb,q⟩:=h;and_intros;refine⟨ds,c,g,rfl,a,sb,?_⟩;and_intros;refine wA (λe=>?_) (λe=>?_)
 ·and_intros;refine⟨ds,c,g,rfl,a,sb,oS e,λbs rows mk=>?_⟩;and_intros;show Q _;rw[zD9 a (oS e) mk];unfold coO at q;rw[if_pos e]at q;exact q
 ·and_intros;unfold coO at q;rw[if_neg (by rw[e];decide)]at q;exact q
end
theorem z63 {β:Type}{l:List β}{i:Nat}{d:β}(h:l[i]?=some d):l.take (i+1)=l.take i++[d]:=by rw[zZ3,h];rfl
theorem vD {ds:List PyData}{x:Str}{d e:Int}(h:∀r∈ds,wu x d r=wu x e r):zh ds x d=zh ds x e:=by
 unfold zh;have:ds.reverse.find? (wu x d)=ds.reverse.find? (wu x e):=by
  have key:∀l:List PyData,(∀r∈l,wu x d r=wu x e r)->l.find? (wu x d)=l.find? (wu x e):=by
   intro l
   induction l with
   |nil=>intro _;rfl
   |cons a l c=>
    intro b;rw[zU1,zU1,b a zO1,c λr hr=>b r (zN7 _ hr)]
  exact key _ λr hr=>h r (List.mem_reverse.mp hr)
 rw[this]
theorem kO {d:Int}:∀(ys:List Int),(∃y∈ys,y<=d)->∃e∈ys,e<=d/\∀y∈ys,y<=d->y<=e
 |[],h=>by obtain⟨y,hy,_⟩:=h;simp at hy
 |a::ys,h=>by
  by_cases c:∃y∈ys,y<=d
  ·obtain⟨e,he,hd,hm⟩:=kO ys c;by_cases ha:a<=d/\e<a
   ·exact⟨a,zO1,ha.1,λy hy b=>by
     rcases zN6.mp hy with rfl|hy
     ·exact zV3 _
     ·have:=hm y hy b;lia⟩
   ·exact⟨e,zN7 _ he,hd,λy hy b=>by
     rcases zN6.mp hy with rfl|hy
     ·lia
     ·exact hm y hy b⟩
  ·obtain⟨y,hy,b⟩:=h;rcases zN6.mp hy with rfl|hy
   ·exact⟨y,zO1,b,λz hz f=>by
     rcases zN6.mp hz with rfl|hz
     ·exact zV3 _
     ·exact absurd ⟨z,hz,f⟩ c⟩
   ·exact absurd ⟨y,hy,b⟩ c
theorem rH {x:Str}{r:PyData}{p q:Int}(hr:yi r=true)(d:p<=q)(h:∀a b v,r=.tuple [.str x,.int a,.int b,v]->¬(p<a/\a<=q)/\¬(p<b+1/\b+1<=q)):wu x q r=wu x p r:=by
 obtain⟨u,a,b,v,j,rfl,k,f,l,hw⟩:=zS hr;show(decide (u=x)&&(decide (a<=q)&&decide (q<=b)))=(decide (u=x)&&(decide (a<=p)&&decide (p<=b)));by_cases c:u=x
 ·subst c;obtain⟨g,i⟩:=h a b v rfl;have e1:decide (a<=q)=decide (a<=p):=by
   by_cases z:a<=q
   ·rw[zS0 z,zS0 (by lia)]
   ·rw[zQ3 z,zQ3 (by lia)]
  have e:decide (q<=b)=decide (p<=b):=by
   by_cases z:q<=b
   ·rw[zS0 z,zS0 (by lia)]
   ·rw[zQ3 z,zQ3 (by lia)]
  rw[e1,e]
 ·rw[zQ3 c,z43,z43]
theorem eX {β:Type}{f:Int->β}{c e:Int}:∀{n:Nat},(∀i:Nat,i<n->f (c+i)=f (e+i))->(zp c n).map f=(zp e n).map f:=λ{n} h=>by
 refine List.ext_getElem? λi=>?_;rw[zO8,zO8];rcases zS6 i n with z|z
 ·rw[yB z,yB z];exact congrArg some (h i z)
 ·rw[zV6 (by rw[zb];exact z),zV6 (by rw[zb];exact z)]
theorem zb3 {l:List Int}{f:Int->Bool}:(l.filter f).isEmpty=!(l.map f).any id:=by
 induction l with
 |nil=>rfl
 |cons a l b=>
  rw[z28,zR6,z52];cases h:f a with
  |true=>simp
  |false=>simpa using b
theorem aB {β:Type}(a b:List β):(a++b).isEmpty=(a.isEmpty&&b.isEmpty):=by cases a<;>rfl
theorem aR (b:Bool)(d:PyData):(opt b d).isEmpty=!b:=by cases b<;>rfl
theorem zb4 {β b:Type}(f:β->b)(a:List β):(a.map f).isEmpty=a.isEmpty:=by cases a<;>rfl
theorem gY {ds:List PyData}{c e:Int}{n:Nat}(a:∀i:Nat,i<n->zh ds "price" (c+i)=zh ds "price" (e+i))(k:zh ds "come" c=zh ds "come" e)(l:zh ds "least" c=zh ds "least" e)(d:zh ds "most" c=zh ds "most" e)(o:zh ds "deal" c=zh ds "deal" e)(j:zh ds "fee" c=zh ds "fee" e)(m:zh ds "go" (c+n)=zh ds "go" (e+n)):coO ds c (c+n)=coO ds e (e+n):=by
 have n1:(c+n-c).toNat=n:=by lia
 have n2:(e+n-e).toNat=n:=by lia
 have g:c+n-c=(n:Int):=by lia
 have h:e+n-e=(n:Int):=by lia
 have b:si ds c (c+n)=si ds e (e+n):=by
  unfold si wj xg;simp only[aB,aR,zb4,zb3,n1,n2,g,h,k,l,d,m,zS2];rw[eX (c:=c) (e:=e) (f:=λz=>yZ (zh ds "price" z)) λi hi=>congrArg yZ (a i hi)]
 have ep:prs ds c (c+n)=prs ds e (e+n):=by
  unfold prs;rw[n1,n2];exact eX λi hi=>congrArg intOf (a i hi)
 unfold coO coD eY wm;rw[b,ep,o,j]
structure Trn (ds:List PyData)(n:Nat)(ys:List Int):Prop where
 zero:0∈ys
 lo:∀y∈ys,0<=y
 hi:∀y∈ys,y+n<=1000000
 at':∀(x:Str) (a b:Int) (v:PyData),.tuple [.str x,.int a,.int b,v]∈ds->∀d:Int,0<=d->d+n<=1000000->(x="go"->d+n=a\/d+n=b+1->d∈ys)/\(x≠"go"->x≠"price"->d=a\/d=b+1->d∈ys)/\(x="price"->∀i:Nat,i<n->d+i=a\/d+i=b+1->d∈ys)
theorem Trn.same {ds es:List PyData}{n:Nat}{ys:List Int}(p:∀d∈ds,yi d=true)(re:∀d∈es,yi d=true)(T:Trn (ds++es) n ys){c:Int}(o:0<=c)(q:c+n<=1000000):∃e∈ys,e<=c/\coO ds c (c+n)=coO ds e (e+n)/\coO es c (c+n)=coO es e (e+n):=by
 obtain⟨e,he,m,hm⟩:=kO ys ⟨0,T.zero,o⟩;have s:=T.lo e he;have key:∀h:List PyData,(∀r∈h,r∈ds++es/\yi r=true)->coO h c (c+n)=coO h e (e+n):=λh hg=>by
  have pl:∀x:Str,x≠"go"->x≠"price"->zh h x c=zh h x e:=λx l k=>vD λr hr=>rH (hg r hr).2 m λa b v f=>by
   subst f;exact⟨λ⟨j,g⟩=>by have:=hm a ((T.at' x a b v (hg _ hr).1 a (by lia) (by lia)).2.1 l k (.inl rfl)) g;lia,λ⟨j,g⟩=>by have:=hm (b+1) ((T.at' x a b v (hg _ hr).1 (b+1) (by lia) (by lia)).2.1 l k (.inr rfl)) g;lia⟩
  refine gY (λi hi=>?_) (pl _ (by decide) (by decide)) (pl _ (by decide) (by decide)) (pl _ (by decide) (by decide)) (pl _ (by decide) (by decide)) (pl _ (by decide) (by decide)) ?_
  ·refine vD λr hr=>rH (hg r hr).2 (by lia) λa b v f=>?_;subst f;exact⟨λ⟨j,g⟩=>by have:=hm (a-i) ((T.at' _ a b v (hg _ hr).1 (a-i) (by lia) (by lia)).2.2 rfl i hi (.inl (by lia))) (by lia);lia,λ⟨j,g⟩=>by have:=hm (b+1-i) ((T.at' _ a b v (hg _ hr).1 (b+1-i) (by lia) (by lia)).2.2 rfl i hi (.inr (by lia))) (by lia);lia⟩
  ·refine vD λr hr=>rH (hg r hr).2 (by lia) λa b v f=>?_;subst f;exact⟨λ⟨j,g⟩=>by have:=hm (a-n) ((T.at' _ a b v (hg _ hr).1 (a-n) (by lia) (by lia)).1 rfl (.inl (by lia))) (by lia);lia,λ⟨j,g⟩=>by have:=hm (b+1-n) ((T.at' _ a b v (hg _ hr).1 (b+1-n) (by lia) (by lia)).1 rfl (.inr (by lia))) (by lia);lia⟩
 exact⟨e,he,m,key ds λr hr=>⟨zP6 _ hr,p r hr⟩,key es λr hr=>⟨zO6 _ hr,re r hr⟩⟩
def qC (ds es:List PyData)(n:Nat):Prop:=∀c:Int,0<=c->c+n<=1000000->coO ds c (c+n)=coO es c (c+n)
theorem Trn.all {ds es:List PyData}{n:Nat}{ys:List Int}(i:∀d∈ds,yi d=true)(re:∀d∈es,yi d=true)(T:Trn (ds++es) n ys)(h:∀y∈ys,coO ds y (y+n)=coO es y (y+n)):qC ds es n:=λc g f=>by
 obtain⟨e,he,_,a,b⟩:=T.same i re g f;rw[a,b];exact h e he
structure gG (ds es:List PyData)(n:Nat)(c:Int):Prop where
 n1:1<=n
 n2:n<=14
 lo:0<=c
 hi:c+n<=1000000
 ne:coO ds c (c+n)≠coO es c (c+n)
 bef:∀m:Nat,1<=m->m<n->qC ds es m
 least:∀e:Int,0<=e->e<c->coO ds e (e+n)=coO es e (e+n)
def Apt (ds es:List PyData):Option (Nat×Int)->Prop
 |none=>∀m:Nat,1<=m->m<=14->qC ds es m
 |some q=>gG ds es q.1 q.2
noncomputable def mn (ds es:List PyData):Option (Nat×Int)->PyData
 |none=>.none
 |some q=>.tuple [.tuple [.int q.2,.int (q.2+q.1)],oD (coO ds q.2 (q.2+q.1)),oD (coO es q.2 (q.2+q.1))]
theorem kN {ds es:List PyData}{q r:Option (Nat×Int)}(h:Apt ds es q)(g:Apt ds es r):q=r:=by
 cases q with
 |none=>cases r with
  |none=>rfl
  |some r=>exact absurd (h r.1 g.n1 g.n2 r.2 g.lo g.hi) g.ne
 |some q=>cases r with
  |none=>exact absurd (g q.1 h.n1 h.n2 q.2 h.lo h.hi) h.ne
  |some r=>
   obtain⟨n,c⟩:=q;obtain⟨m,d⟩:=r;have h:gG ds es n c:=h;have g:gG ds es m d:=g;have a1:¬n<m:=λz=>h.ne (g.bef n h.n1 z c h.lo h.hi);have a2:¬m<n:=λz=>g.ne (h.bef m g.n1 z d g.lo g.hi);have e:n=m:=by lia
   subst e;have a:¬c<d:=λz=>h.ne (g.least c h.lo z);have b:¬d<c:=λz=>g.ne (h.least d g.lo z);have e:c=d:=by lia
   subst e;rfl
theorem du {ds es:List PyData}{q:Option (Nat×Int)}(h:Apt ds es q):Apt es ds q:=by
 cases q with
 |none=>exact λm m1 m2 c b a=>(h m m1 m2 c b a).symm
 |some q=>
  have h:gG ds es q.1 q.2:=h;exact(⟨h.n1,h.n2,h.lo,h.hi,λe=>h.ne e.symm,λm m1 m2 c b a=>(h.bef m m1 m2 c b a).symm,λe d e1=>(h.least e d e1).symm⟩:gG es ds q.1 q.2)
theorem Trn.fst {ds es:List PyData}{n:Nat}{ys:List Int}(p:∀d∈ds,yi d=true)(re:∀d∈es,yi d=true)(T:Trn (ds++es) n ys)(up:ys.Pairwise (·<=·))(n1:1<=n)(n2:n<=14)(al:∀m:Nat,1<=m->m<n->qC ds es m){j:Nat}{y:Int}(hy:ys[j]?=some y)(f:∀z∈ys.take j,coO ds z (z+n)=coO es z (z+n))(ne:coO ds y (y+n)≠coO es y (y+n)):gG ds es n y:=by
 have a:=zR1 hy;refine⟨n1,n2,T.lo y a,T.hi y a,ne,al,λe c e1=>?_⟩;obtain⟨u,l,q,g,h⟩:=T.same p re c (by have:=T.hi y a;lia);rw[g,h];obtain⟨k,hk⟩:=List.getElem?_of_mem l;have o:k<j:=by
  rcases zS6 k j with z|z
  ·exact z
  ·obtain⟨p1,p2⟩:=zN8.mp hy;obtain⟨p3,p4⟩:=zN8.mp hk;rcases zS6 j k with b|b
   ·have:=zV4.mp up j k p1 p3 b
    lia
   ·have:j=k:=by lia
    subst this
    lia
 exact f u (zR1 (i:=k) (by rw[z26 o,hk]))
abbrev sTb :Stmt:=top 26
abbrev sTn :Stmt:=top 27
abbrev zB4 :Stmt:=top 28
def tbL (u:Str)(a b:Int)(n:Nat):List Int:=if u="go" then [a-n,b+1-n]else if u="price" then zp (a-n+1) n++zp (b+1-n+1) n else [a,b+1]
theorem zw8 (u:Str)(a b:Int){n:Nat}(h:n<=14):(tbL u a b n).length<=28:=by
 unfold tbL;split
 ·simp
 ·split
  ·rw[zQ5,zb,zb];lia
  ·simp
def zE4 :Ph:=λas Q=>∃(u:Str) (a b:Int) (v:PyData) (n:Nat),as=[.dat (.tuple [.str u,.int a,.int b,v]),.dat (.int n)]/\0<=a/\a<=b/\b<=1000000/\n<=14/\Q (.dat (.list ((tbL u a b n).map .int)))
def zI4 :Ph:=λas Q=>∃(ds:List PyData) (n:Nat),as=[.dat (.list ds),.dat (.int n)]/\(∀d∈ds,yi d=true)/\ds.length<=24/\1<=n/\n<=14/\∀ys:List Int,Trn ds n ys->ys.Pairwise (·<=·)->ys.length<=1000->Q (.dat (.list (ys.map .int)))
def zl3 (C:Addr)(cs:Cs):Ph:=λas Q=>∃ds es:List PyData,as=[.dat (yx C cs ds),.dat (yx C cs es)]/\zk ds/\zk es/\ds.length<=12/\es.length<=12/\∀q,Apt ds es q->Q (.dat (mn ds es q))
theorem yD (x:Option Int):SeqAt.shaped (oD x)=true/\(oD x).hasDict=false:=by cases x<;>exact⟨rfl,rfl⟩
theorem ag (x y:Option Int):PyData.eqv (oD x) (oD y)=decide (x=y):=by
 cases x<;>cases y<;>simp[oD,PyData.eqv]<;>rfl
section
variable {P:Program}{w:World}{K:PySem.W.Frag}{mg:Str->Option Value}{base:Heap}{cs:Cs}
theorem zw0 (F:FnD K mg "turns_by" sTb ["rule","many"])(nb:NbT mg):Cal P w K mg base "turns_by" 1 zE4:=by
 refine yj ["rule","many","edges","found","edge"] F λ_ _ _ _ _ _ _ _ Q nd hr h=>?_;obtain⟨u,a,b,v,n,rfl,o,j,p,n2,q⟩:=h;unfold tbL at q;and_intros;refine ya (λh=>?_) λh=>?_
 ·rw[if_pos (zX6 h)]at q;refine yI (EvL.d (sY ["edge","many"] [none,some 1] (.one 0) (yg (zc 2 rfl ⟨_,rfl,by simp,?_⟩))));refine xK (l:=[a,b+1]) (g:=PyData.int) (λe=>.int (e-n)) (λe _=>⟨_,rfl,λ_ _ _ _ _ k=>?_⟩) q;and_intros;exact k
 rw[if_neg (z61 h)]at q;and_intros;refine ya (λh=>?_) λh=>?_
 ·rw[if_neg (by simpa using h)]at q;and_intros;exact q
 rw[if_pos (by simpa using h)]at q;and_intros;refine yy (.one 4) (yg (zc 2 rfl ⟨_,rfl,?_⟩));refine zM (λi α=>∃c:Option A,α=[some (.dat (.tuple [.str u,.int a,.int b,v])),some (.dat (.int n)),some (.dat (.list [.int a,.int (b+1)])),some (.own (((([a,b+1]:List Int).take i).flatMap λe=>zp (e-n+1) n).map .int)),c]) ⟨none,rfl⟩ ?_ ?_
 ·rintro i d α hd ⟨c,rfl⟩;have hd:(([a,b+1]:List Int).map PyData.int)[i]?=some d:=hd;rw[zO8,zQ0]at hd;obtain⟨e,he,rfl⟩:=hd;have hi:=(zN8.mp he).1;have m:0<=e/\e<=1000001:=by
   have:=zR1 he;simp at this
   lia
  refine⟨_,rfl,uM 3 rfl (EvL.d (nv rfl (by rfl) nb.list (by rfl) nb.range ?_))⟩;and_intros;refine⟨⟨by lia,by lia,by lia,by lia⟩,by lia,_,rfl,?_,zw ⟨some (.dat (.int e)),?_⟩⟩
  ·have l:∀l:List Int,(l.flatMap λe=>zp (e-n+1) n).length=l.length*n:=λl=>by
    induction l with
    |nil=>simp
    |cons a l f=>rw[List.flatMap_cons,zQ5,f,zb,zQ2,z70];lia
   rw[zN0,zN0,zb,l,zP7];have:min i ([a,b+1]:List Int).length*n<=2*14:=Nat.mul_le_mul (by simp;lia) n2
   lia
  ·rw[zZ3,he,List.flatMap_append,zY7,show(e+1-(e-n+1)).toNat=n by lia];simp
 ·rintro α ⟨c,rfl⟩;refine uN 3 rfl (yI (zc 3 rfl ?_));simpa using q
theorem zu0 (F:FnD K mg "turns" sTn ["rules","many"])(nb:NbT mg)(f:mg "set"=none)(gl:∃t,mg "LAST_DAY"=some (.int 1000000 t))(O:Cal P w K mg base "turns_by" 1 zE4):Cal P w K mg base "turns" 2 zI4:=by
 refine yj ["rules","many","found","rule"] F λ_ _ _ _ _ _ _ _ Q nd hr h=>?_;obtain⟨ds,n,rfl,I,ld,n1,n2,q⟩:=h;refine xx 2 nd ?_;and_intros;refine yy (.one 3) (yg (zc 0 rfl ⟨_,rfl,?_⟩));refine zM (λi α=>∃(fs:List Int) (m:Option A),0∈fs/\(∀u a b v,.tuple [.str u,.int a,.int b,v]∈ds.take i->∀y∈tbL u a b n,y∈fs)/\fs.length<=1+28*i/\α=[some (.dat (.list ds)),some (.dat (.int n)),some (.own (fs.map .int)),m]) ⟨[0],none,by simp,λu a b v h=>by simp at h,by simp,rfl⟩ ?_ ?_
 ·rintro i d α hd ⟨fs,m,r,hf,lf,rfl⟩;have hi:=(zN8.mp hd).1;obtain⟨u,a,b,v,M,rfl,D,z,J,hw⟩:=zS (I d (zR1 hd));have N:=zw8 u a b n2;refine⟨_,rfl,uM 2 rfl ?_⟩;and_intros;refine⟨u,a,b,v,n,rfl,D,z,J,n2,_,rfl,by rw[zN0,zN0];lia,zw ⟨fs++tbL u a b n,_,zP6 _ r,λs E B H h y hy=>?_,by rw[zQ5];lia,by rw[zY7]<;>rfl⟩⟩;rw[z63 hd]at h;rcases zP4.mp h with h|h
  ·exact zP6 _ (hf s E B H h y hy)
  ·have h:=zP8.mp h;injection h with h;injection h with c h;injection h with l h;injection h with g h;injection c with c;injection l with l;injection g with g;subst c l g;exact zO6 _ hy
 ·rintro α ⟨fs,m,r,hf,lf,rfl⟩;rw[zU3]at hf;refine uN 2 rfl (yI (EvL.d (sY ["day","many"] [none,some 1] (.one 0) (yg (EvL.d (tj rfl (by rfl) nb.sorted (by rfl) f (zc 2 rfl ⟨fs,rfl,by lia,λys G up L=>⟨_,rfl,by rw[zN0];lia,?_⟩⟩)))))));refine sS (λd:Int=>decide (0<=d)&&decide (d<=1000000-(n:Int))) .int (λd hd=>⟨_,rfl,λ_ _ _ _ _ k=>sN ?_,λ_ _ _ _ _ _ k=>?_⟩) ?_
  ·and_intros;refine wA (λh=>?_) λh=>?_
   ·refine kA (yH (by rfl) gl ?_);and_intros;rw[h]at k;exact k
   ·rw[h]at k;exact k
  ·and_intros;exact k
  rw[zU9];have j:∀{y:Int},y∈fs->0<=y->y+n<=1000000->y∈ys.filter λd:Int=>decide (0<=d)&&decide (d<=1000000-(n:Int)):=λ{y} c l g=>z08.mpr ⟨(G y).mpr c,by simp;lia⟩;have mb:∀y∈ys.filter λd:Int=>decide (0<=d)&&decide (d<=1000000-(n:Int)),0<=y/\y+n<=1000000:=λy hy=>by
   have:=(z08.mp hy).2;simp at this
   lia
  refine q _ ⟨j r (zV3 _) (by lia),λy hy=>(mb y hy).1,λy hy=>(mb y hy).2,λx a b v hm d o p=>?_⟩ ((up.imp λh=>z06 h).filter _) (by have:=z79 (λd:Int=>decide (0<=d)&&decide (d<=1000000-(n:Int))) ys;lia);have hf:=hf x a b v hm;unfold tbL at hf;refine⟨λe h=>?_,λe1 C h=>?_,λe i hi h=>?_⟩
  ·rw[if_pos e]at hf;exact j (hf d (by simp;lia)) o p
  ·rw[if_neg e1,if_neg C]at hf;exact j (hf d (by simp;lia)) o p
  ·subst e;rw[if_neg (by decide),if_pos rfl]at hf;refine j (hf d (zP4.mpr ?_)) o p;rw[zK,zK]
   lia
theorem zc2 {C:Addr}(F:FnD K mg "apart" zB4 ["one","other"])(nb:NbT mg)(u:∃t,mg "MOST_NIGHTS"=some (.int 14 t))(ga:∃t,mg "MOST_RULES_APART"=some (.int 12 t))(x:xt P w K mg base C "rules" 3 (pP C cs))(v:Cal P w K mg base "turns" 2 zI4)(E:Cal P w K mg base "cost_or_none" 6 (zi1 C cs)):Cal P w K mg base "apart" 7 (zl3 C cs):=by
 refine yj ["one","other","rules","others","many","come","stay","coins","others_coins"] F λ_ _ D _ _ _ _ _ Q nd hr h=>?_;obtain⟨ds,es,rfl,p,re,ld,le,q⟩:=h;and_intros;refine⟨p.rules,by lia,?_⟩;and_intros;refine⟨re.rules,by lia,?_⟩;and_intros;refine yH (by rfl) ga ?_;and_intros;refine wZ (zQ3 (by split<;>lia)) (zw ?_);refine yy (.one 4) (uT (by rfl) nb.range (zL (uB (yH (by rfl) u ?_))));and_intros;refine⟨⟨by decide,by decide,by decide,by decide⟩,?_⟩;refine zM (λi α=>∃r k f c g:Option A,(∀m:Nat,1<=m->m<1+i->qC ds es m)/\α=[some (.dat (yx C cs ds)),some (.dat (yx C cs es)),some (.dat (.list ds)),some (.dat (.list es)),r,k,f,c,g]) ⟨none,none,none,none,none,λm a b=>by lia,rfl⟩ ?_ ?_
 ·rintro i d α hd ⟨r,k,f,c,g,l,rfl⟩;rw[zO8,zQ0]at hd;obtain⟨z,hz,rfl⟩:=hd;have hi:=(zN8.mp hz).1;rw[zb]at hi;have hi:i<14:=hi;obtain rfl:z=((1+i:Nat):Int):=by rw[yB (by exact hi)]at hz;cases hz;lia
  have n1:1<=1+i:=by lia
  have n2:1+i<=14:=by lia
  generalize hn:1+i=n at l n1 n2;refine⟨_,rfl,yy (.one 5) (yg (xC v (hr.mono (by decide)) (by rfl) (zl (EvL.d (yA (zc 2 rfl (zc 3 rfl ⟨_,_,rfl,rfl,by lia,zl (zc 4 rfl (zu ⟨ds++es,n,rfl,λd hd=>(zP4.mp hd).elim (p.all d) (re.all d),by simp;lia,n1,n2,λys T up B=>⟨_,rfl,?_⟩⟩))⟩)))))))⟩;refine zM (λj α=>∃k f c g:Option A,(∀z∈ys.take j,coO ds z (z+n)=coO es z (z+n))/\α=[some (.dat (yx C cs ds)),some (.dat (yx C cs es)),some (.dat (.list ds)),some (.dat (.list es)),some (.dat (.int n)),k,f,c,g]) ⟨k,f,c,g,λz h=>by simp at h,rfl⟩ ?_ ?_
  ·rintro j d α hd ⟨k,f,c,g,o,rfl⟩;rw[zO8,zQ0]at hd;obtain⟨y,hy,rfl⟩:=hd;have s:=zR1 hy;have sb:rW y (y+n):=⟨T.lo y s,by lia,by lia,T.hi y s⟩;refine⟨_,rfl,?_⟩;and_intros;refine⟨ds,y,y+n,rfl,p,sb,?_⟩;and_intros;refine⟨es,y,y+n,rfl,re,sb,?_⟩;and_intros;refine eqk (yD _).1 (yD _).1 (yD _).2 (yD _).2 ?_;rw[show PyData.eqv (A.dat (oD (coO ds y (y+n)))).d (A.dat (oD (coO es y (y+n)))).d=decide (coO ds y (y+n)=coO es y (y+n))from ag _ _];refine ya (λh=>?_) λh=>?_
   ·and_intros;exact q (some (n,y)) (T.fst p.all re.all up n1 n2 l hy o (by simpa using h))
   ·and_intros;refine⟨_,_,_,_,λz hz=>?_,rfl⟩;rw[z63 hy]at hz;rcases zP4.mp hz with hz|hz
    ·exact o z hz
    ·rw[zP8.mp hz];simpa using h
  ·rintro α ⟨k,f,c,g,o,rfl⟩;rw[zN0,zU3]at o;and_intros;refine⟨_,_,_,_,_,λm m1 m2=>?_,rfl⟩;by_cases e:m<n
   ·exact l m m1 e
   ·obtain rfl:m=n:=by lia
    exact T.all p.all re.all o
 ·rintro α ⟨r,k,f,c,g,l,rfl⟩;and_intros;exact q none λm m1 m2=>l m m1 (by rw[zN0,zb];show m<1+14;lia)
end
theorem qN {ys:List Int}{cs:List Bool}:∀{zs:List Int}{bs:List Bool},bs.length=zs.length->zC (zs++ys) (bs++cs)=zC zs bs++zC ys cs:=by
 intro zs
 induction zs with
 |nil=>intro bs h;rw[zX4.mp h];rfl
 |cons z zs a=>
  intro bs h;cases bs with
  |nil=>cases h
  |cons b bs=>
   have:=a (z88 h);cases b<;>simp[zC,this]
theorem iU {f:Int->Int}{g:Int->Bool}(ns:List Int):zC (ns.map f) (ns.map g)=(ns.filter λn=>!g n).map f:=by
 induction ns with
 |nil=>rfl
 |cons n ns a=>cases h:g n<;>simp[zC,h,a]
theorem cQ {xs ys:List Int}(h:xs.Perm ys):xs.sum=ys.sum:=by
 induction h with
 |nil=>rfl
 |cons _ _ e=>rw[zY0,zY0,e]
 |swap a b l=>simp only[zY0];lia
 |trans _ _ c d=>exact c.trans d
theorem lY {zs ms ys:List Int}{lo many free:Nat}{bs:List Bool}(s:uz (zp (lo:Int) many) zs ms)(hz:lo+many<=zs.length)(hb:bs.length=zs.length)(h:∀q,q<many->bs.getD (ms.getD q 0).toNat false=decide (q<free))(py:ys.Perm ((zs.drop lo).take many))(j:ys.Pairwise (·<=·)):(zC ((zs.drop lo).take many) ((bs.drop lo).take many)).sum=(ys.drop free).sum:=by
 have o:ms.length=many:=by rw[s.1.length_eq,zb]
 have f:ys=ms.map λm=>zs.getD m.toNat 0:=by
  refine List.Perm.eq_of_pairwise (le:=λa b=>a<=b) (λa b _ _ c d=>Int.le_antisymm c d) j ?_ (py.trans ?_)
  ·rw[List.pairwise_map];refine s.2.imp λ{m k} h=>?_;unfold SortA.lx keyOf at h;simp only[zX3]at h
   lia
  ·rw[tO zs 0 lo many hz];exact(s.1.map _).symm
 rw[tO zs 0 lo many hz,tO bs false lo many (by lia),iU,cQ ((s.1.symm.filter _).map _),f,<-z98];have e:ms.filter (λn=>!bs.getD n.toNat false)=ms.drop free:=by
  have g:∀q (hq:q<ms.length),bs.getD (ms[q]).toNat false=decide (q<free):=λq hq=>by
   have:=h q (by lia);rw[zN3 (l:=ms),zN2 hq]at this;exact this
  rw[<-zP3 free ms,List.filter_append,List.filter_eq_nil_iff.mpr,z90.mpr,zU9,zP3]
  ·intro a ha;obtain⟨i,hi,rfl⟩:=zT8.mp ha;rw[zQ9]at hi;rw[z42,g (free+i) (by lia)];simp
  ·intro a ha;obtain⟨i,hi,rfl⟩:=zT8.mp ha;rw[zP7]at hi;rw[List.getElem_take,g i (by lia)];simp
   lia
 rw[e]
abbrev jN :Stmt:=top 58
def nc :Ph:=λas Q=>∃ds x day,as=[.dat (.list ds),.dat (.str x),.dat (.int day)]/\(∀d∈ds,yi d=true)/\x∈words/\Q (.dat (zh ds x day))
def zs7 :List (PyData×PyData):=[(.str "come",.bool true),(.str "go",.bool true),(.str "least",.int 1),(.str "most",.int 14),(.str "fee",.int 0)]
theorem jC {x:Str}(h:x∈words):(tH zs7 x).getD .none=iH x:=by
 simp only[words,zN6,zP0,zR9]at h;rcases h with rfl|rfl|rfl|rfl|rfl|rfl|rfl<;>with_unfolding_all rfl
section
variable {P:Program}{w:World}{K:PySem.W.Frag}{mg:Str->Option Value}{base:Heap}
theorem mH (F:FnD K mg "_law_tells" jN ["_law_rules","_law_word","_law_day_here"]):Cal P w K mg base "_law_tells" 1 nc:=by
 refine yj ["_law_rules","_law_word","_law_day_here","_law_found","_law_rule_here"] F λ_ _ _ _ _ _ _ _ Q nd hr h=>?_;obtain⟨ds,x,day,rfl,g,c,q⟩:=h;obtain⟨v,_,f⟩:=bx c;refine zY 3 nd (de (D:=zs7) (by rfl) (by rfl) (by decide +kernel) (by unfold zs7;simp[scV]) (zc 1 rfl ⟨x,v,rfl,by rw[jC c];exact f,?_⟩));rw[jC c];refine sE (pat:=.one 4) zY9 rfl (zD (i:=4) nd rfl (by first|exact Or.inl rfl|exact Or.inr rfl)) (yg (zc 0 rfl (⟨_,rfl,?_⟩)));refine zM (λi α=>∃v4,α=[some (.dat (.list ds)),some (.dat (.str x)),some (.dat (.int day)),some (.dat (zh (ds.take i) x day)),v4]) ⟨none,rfl⟩ ?_ ?_
 ·rintro i d α hd ⟨v4,rfl⟩;obtain⟨u,a,b,e,j,rfl,_,_,_,_⟩:=zS (g d (zR1 hd));refine⟨_,rfl,?_⟩;refine xu (EvW.t (jJ (λ_ k=>bA (yz (λ_ _=>rfl) (zc 4 rfl (zL (⟨_,_,_,rfl,rfl,rfl,zc 1 rfl ⟨_,_,rfl,rfl,k⟩⟩)))))
   (λl _ k=>pC (zc3 (by with_unfolding_all rfl) (λ_ k=>yz (λ_ _=>rfl) (zc 4 rfl (zL (⟨_,_,_,rfl,rfl,rfl,k⟩)))) (λ_ k=>zc 2 rfl (k)) (λ_ k=>yz (λ_ _=>rfl) (zc 4 rfl (zL (⟨_,_,_,rfl,rfl,rfl,k⟩)))) (k))) ?_))
  have es:=oO (ds.take i) (.tuple [.str u,.int a,.int b,e]) x day;rw[<-z63 hd]at es;refine ya (λh=>?_) (λh=>?_)
  ·refine zY 3 nd (yz (λ_ _=>rfl) (zc 4 rfl (zL (⟨_,_,_,rfl,rfl,rfl,?_⟩))));rw[if_pos (show wu x day (.tuple [.str u,.int a,.int b,e])=true from h)]at es;refine zw (zw ⟨some (.dat (.tuple [.str u,.int a,.int b,e])),?_⟩);rw[es];rfl
  ·rw[if_neg (by rw[show wu x day (.tuple [.str u,.int a,.int b,e])=false from h];decide)]at es;refine zw (zw ⟨some (.dat (.tuple [.str u,.int a,.int b,e])),?_⟩);rw[es];rfl
 ·rintro α ⟨v4,rfl⟩;rw[zU3];exact yI (zc 3 rfl q)
end
abbrev vT :Stmt:=top 62
def zE5 :Ph:=λas Q=>∃(ds:List PyData) (c g:Int),as=[.dat (.list ds),.dat (.int c),.dat (.int g)]/\zk ds/\rW c g/\Q (.dat (oD (coO ds c g)))
theorem zx9 (ds:List PyData)(ns:List Int)(h:∀z∈ns,zh ds "price" z=.none\/∃i,zh ds "price" z=.int i):inD .none (ns.map λz=>zh ds "price" z)=ns.any λz=>yZ (zh ds "price" z):=by
 induction ns with
 |nil=>rfl
 |cons n ns a=>
  have a:=a λz hz=>h z (zN7 _ hz);rw[zR6,z52,<-a];rcases h n zO1 with e|⟨i,e⟩<;>rw[e]<;>rfl
theorem nI :∀{zs:List Int}{bs:List Bool},(∀b∈bs,b=false)->bs.length=zs.length->zC zs bs=zs:=by
 intro zs
 induction zs with
 |nil=>intro bs _ h;rw[zX4.mp h];rfl
 |cons z zs a=>
  intro bs hb h;cases bs with
  |nil=>cases h
  |cons b bs=>
   rw[hb b zO1];simp[zC,a (λb h=>hb b (zN7 _ h)) (z88 h)]
section
variable {P:Program}{w:World}{K:PySem.W.Frag}{mg:Str->Option Value}{base:Heap}
theorem lH {f:Addr}{cdv:Value}{v:Around}{outer:List Env}{s:Shared}{H:Hp}{E:XK}{Q:A->Prop}{ds:List PyData}{c g fee:Int}{zs:List Int}{bs:List Bool}{r:PyData}(nd:(["_law_rules","_law_begin_here","_law_end","_law_nights","_law_prices","_law_total","_law_worth_here","_law_bundle"]:List Str).Nodup)(nb:NbT mg)(hr:zN 1 (v.deeper (envOfC "_law_price" (zg vT) s.heap.objs.size f cdv)))
  (mk:yL r zs bs) (dl:pN r) (pm:∀y∈zs,0<=y/\y<=1000000000000) (u:zs.length<=14) (q:Q (.dat (.int ((zC zs bs).sum+fee)))):
  SvS (wx CX0 P w K mg base ["_law_rules","_law_begin_here","_law_end","_law_nights","_law_prices","_law_total","_law_worth_here","_law_bundle"] "_law_price" (zg vT) f cdv v outer s H E).nox [some (.dat (.list ds)),some (.dat (.int c)),some (.dat (.int g)),some (.dat (.int (g-c))),some (.dat (.list (zs.map .int))),some (.dat (.int fee)),some (.dat r),none] ((zv vT).drop 7) {nx:=λ_=>Q (.dat .none),rt:=Q}:=by
 have o:∀{ys:List Int},(∀y∈ys,y∈zs)->ys.length<=14->(∀n∈ys,-(2 ^ 62)<=n/\n<2 ^ 62)/\Fits ys:=λ{ys} h l=>⟨λn hn=>by have:=pm n (h n hn);lia,rN (λn hn=>pm n (h n hn)) (by lia)⟩;rcases dl with rfl|⟨many,free,rfl,f0,I,F⟩
 ·refine oQ zY9 (λm α=>α=[some (.dat (.list ds)),some (.dat (.int c)),some (.dat (.int g)),some (.dat (.int (g-c))),some (.dat (.list (zs.map .int))),some (.dat (.int fee)),some (.dat .none),none]) 0 rfl ?_;rintro m α rfl;and_intros;refine tV rfl (by rfl) nb.sum (zc 4 rfl ⟨zs,rfl,(o (λ_ h=>h) u).1,(o (λ_ h=>h) u).2,?_⟩);and_intros;rw[zd8 mk,Int.add_comm]at q;exact q
 have mk:=rE mk;refine oQ zY9 (λm α=>∃(k:Nat) (t:Option A),k*many<=zs.length/\m=zs.length-k*many/\α=[some (.dat (.list ds)),some (.dat (.int c)),some (.dat (.int g)),some (.dat (.int (g-c))),some (.dat (.list ((zs.drop (k*many)).map .int))),some (.dat (.int (fee+(zC (zs.take (k*many)) (bs.take (k*many))).sum))),some (.dat (.tuple [.int many,.int free])),t]) zs.length ⟨0,none,by simp,by simp,by simp[zC]⟩ ?_;rintro m α ⟨k,t,hk,rfl,rfl⟩;and_intros;refine wA (λh=>?_) λh=>?_
 ·have h:=zX6 h;rw[zN0,zQ9]at h;have a:k*many+many<=zs.length:=by lia
  have e1:(k+1)*many=k*many+many:=by rw[z70];lia
  refine zY 7 nd (EvL.d (kg (by rfl) nb.sorted (EvL.d (ni (zc 4 rfl ?_)))));and_intros;rw[aO _ (by lia),<-List.map_take,zS2];refine⟨(zs.drop (k*many)).take many,rfl,by rw[zP7];lia,λys py D=>?_⟩;have p:∀y∈ys,y∈zs:=λy hy=>zT9 (zV1 (py.mem_iff.mp hy));have G:ys.length=many:=by rw[py.length_eq,zP7,zQ9];lia
  refine zY 4 nd (EvL.d (ni (zc 4 rfl ?_)));and_intros;rw[qr _ (by lia),<-z98,zS2,List.drop_drop];refine tV rfl (by rfl) nb.sum (EvL.d (ni (zc 7 rfl ?_)));and_intros;rw[qr _ (by lia),<-z98,zS2];have j:=o (ys:=ys.drop free) (λy hy=>p y (zT9 hy)) (by rw[zQ9];lia);refine⟨ys.drop free,rfl,j.1,j.2,?_⟩;and_intros;have B:(zC (zs.take ((k+1)*many)) (bs.take ((k+1)*many))).sum=(zC (zs.take (k*many)) (bs.take (k*many))).sum+(ys.drop free).sum:=by
   obtain⟨ms,s1,s2⟩:=mk.2.2 k ((Nat.le_div_iff_mul_le (by lia)).mpr (by rw[Nat.succ_mul];exact a));rw[e1,z36,z36,qN (by rw[zP7,zP7,mk.1]),List.sum_append,lY s1 a mk.1 s2 py D]
  exact⟨zs.length-(k+1)*many,by lia,k+1,_,by lia,rfl,by rw[B,<-Int.add_assoc,e1]<;>rfl⟩
 ·have h:=z61 h;rw[zN0,zQ9]at h;have dk:zs.length / many=k:=Nat.div_eq_of_lt_le hk (by rw[z70];lia);have x:=o (ys:=zs.drop (k*many)) (λy hy=>zT9 hy) (by rw[zQ9];lia);and_intros;refine tV rfl (by rfl) nb.sum (zc 4 rfl ⟨_,rfl,x.1,x.2,?_⟩);and_intros;have C:∀b∈bs.drop (k*many),b=false:=λb hb=>by
   obtain⟨i,hi,rfl⟩:=zT8.mp hb;have:=mk.2.1 (k*many+i) (by rw[dk];lia);rw[zQ9]at hi;rw[zN3,zN2 (by lia)]at this;rw[z42];exact this
  have z:zC zs bs=zC (zs.take (k*many)) (bs.take (k*many))++zs.drop (k*many):=by
   have e:=qN (ys:=zs.drop (k*many)) (cs:=bs.drop (k*many)) (zs:=zs.take (k*many)) (bs:=bs.take (k*many)) (by rw[zP7,zP7,mk.1]);rw[zP3,zP3,nI C (by rw[zQ9,zQ9,mk.1])]at e;exact e
  rw[z,List.sum_append,Int.add_comm,<-Int.add_assoc]at q;exact q
theorem kC (F:FnD K mg "_law_price" vT ["_law_rules","_law_begin_here","_law_end"])(nb:NbT mg)(H:Cal P w K mg base "_law_tells" 1 nc):Cal P w K mg base "_law_price" 2 zE5:=by
 refine yj ["_law_rules","_law_begin_here","_law_end","_law_nights","_law_prices","_law_total","_law_worth_here","_law_bundle"] F λ_ _ G _ _ _ _ _ Q nd hr h=>?_;obtain⟨ds,c,g,rfl,j,sb,q⟩:=h;have a:=j.all;obtain⟨I,D,x,g1⟩:=id sb;obtain⟨v,l⟩:=fZ a c;obtain⟨u,m⟩:=zI2 a g;obtain⟨o,el,_,_⟩:=jd a c;obtain⟨im,em,_,_⟩:=eL a c;have f:(si ds c g=true->False)->Q (.dat .none):=λh=>by
  unfold coO at q;rw[if_neg h]at q;exact q
 refine zY 3 nd ?_;and_intros;refine⟨ds,_,_,rfl,a,by simp[words],?_⟩;and_intros;refine wA (λt=>?_) λt=>?_
 ·and_intros;exact f λe=>by have:=(xv.mp e).1 c (zV3 _) D;rw[show yZ (zh ds "price" c)=true from t]at this;cases this
 and_intros;refine⟨ds,_,_,rfl,a,by simp[words],v,by rw[l];rfl,?_⟩;cases v with
 |false=>
  and_intros;exact f λe=>by have:=(xv.mp e).2.1;rw[l]at this;cases this
 |true=>
 and_intros;refine kJ 4 ["_law_night","_law_rules"] [none,some 0] (.one 0) (uT (by rfl) nb.range ?_);and_intros;refine⟨⟨by lia,by lia,by lia,by lia⟩,by rw[zN0,zb];lia,?_⟩;refine xK (λz=>zh ds "price" z) (λz _=>⟨_,rfl,λ_ _ _ _ _ k=>?_⟩) ?_
 ·and_intros;exact⟨ds,_,_,rfl,a,by simp[words],k⟩
 rw[zU9];refine uN 4 rfl ?_;have tp:∀z∈zp c (g-c).toNat,zh ds "price" z=.none\/∃i,zh ds "price" z=.int i:=λz _=>(jm a z).imp id λ⟨i,e,_⟩=>⟨i,e⟩;and_intros;refine ink rfl (z27.mpr λd hd=>?_) ?_
 ·obtain⟨z,hz,rfl⟩:=zY6.mp hd;rcases tp z hz with e|⟨i,e⟩<;>rw[e]<;>rfl
 rw[zx9 ds _ tp];refine wA (λn=>?_) λn=>?_
 ·and_intros;exact f λe=>by
   obtain⟨z,hz,b⟩:=z77.mp n;have hz:=zK.mp hz;rw[(xv.mp e).1 z hz.1 (by lia)]at b;cases b
 have so:pU ds c g:=λz B E=>by
  have:=List.any_eq_false.mp n z (zK.mpr ⟨B,by lia⟩);simpa using this
 and_intros;refine⟨ds,_,_,rfl,a,by simp[words],true,by rw[l];rfl,?_⟩;and_intros;refine⟨ds,_,_,rfl,a,by simp[words],u,by rw[m];rfl,?_⟩;cases u with
 |false=>
  and_intros;exact f λe=>by have:=(xv.mp e).2.2.1;rw[m]at this;cases this
 |true=>
 and_intros;refine⟨ds,_,_,rfl,a,by simp[words],?_⟩;and_intros;refine⟨o,_,el,rfl,wA (λb=>?_) λb=>?_⟩
 ·and_intros;refine⟨ds,_,_,rfl,a,by simp[words],im,em,?_⟩;refine ya (λr=>?_) λr=>?_
  ·and_intros;exact f λe=>by have:=(xv.mp e).2.2.2.2;rw[em]at this;simp at r;exact this (by show im<_;lia)
  have C:si ds c g=true:=xv.mpr ⟨so,by rw[l];rfl,by rw[m];rfl,by rw[el];simp at b;show ¬_<o;lia,by rw[em];simp at r;show ¬im<_;lia⟩;have q:Q (.dat (.int (coD ds c g))):=by unfold coO at q;rw[if_pos C]at q;exact q
  have mk:yL (zh ds "deal" c) (prs ds c g) (eY ds c g):=Classical.epsilon_spec (p:=λbs=>yL (zh ds "deal" c) (prs ds c g) bs) (zt4 (pz a c) _);have ep:(zp c (g-c).toNat).map (λz=>zh ds "price" z)=(prs ds c g).map .int:=by
   unfold prs;rw[z60];exact List.map_congr_left λz hz=>(vB j so (zK.mp hz).1 (by have:=(zK.mp hz).2;lia)).1
  have pm:∀y∈prs ds c g,0<=y/\y<=1000000000000:=λy=>pA j so;have s:(prs ds c g).length<=14:=by unfold prs;rw[zN0,zb];lia
  unfold coD at q;rw[ep];generalize eY ds c g=bs at mk q;generalize prs ds c g=zs at mk q pm s;have dl:=pz a c;obtain⟨A,f0,f1⟩:=jx j c;refine zw ?_;refine xo (λα=>α=[some (.dat (.list ds)),some (.dat (.int c)),some (.dat (.int g)),some (.dat (.int (g-c))),some (.dat (.list (zs.map .int))),some (.dat (.int (wm ds c))),none,none]) ?_ ?_
  ·and_intros;refine⟨ds,_,_,rfl,a,by simp[words],?_⟩;show SvS _ (List.set _ _ (some (.dat (zh ds "fee" c)))) _ _;rw[A];exact zw rfl
  rintro α rfl;refine zY 6 nd ?_;and_intros;refine⟨ds,_,_,rfl,a,by simp[words],?_⟩;show SvS _ (List.set _ _ (some (.dat (zh ds "deal" c)))) _ _;generalize zh ds "deal" c=dd at mk dl;generalize wm ds c=fee at q f0 f1;dsimp only[List.set];exact lH nd nb hr mk dl pm s q
 ·and_intros;exact f λe=>by have:=(xv.mp e).2.2.2.1;rw[el]at this;simp at b;exact this (by show _<o;lia)
end
abbrev zG9 :Stmt:=top 60
abbrev zk6 :Stmt:=top 61
def zi3 :Ph:=λas Q=>∃y:Int,as=[.tape,.dat (.int y),.dat (.int 2)]/\0<=y/\y<=999990/\∀ds,zk ds->ds.length<=3->Q (.own ds)
def fN :Ph:=λas Q=>∃(ds:List PyData) (y:Int),as=[.tape,.dat (.list ds),.dat (.int y)]/\zk ds/\ds.length<=7/\0<=y/\y<=999990/\∀es,zk es->es.length<=ds.length+1->Q (.own es)
theorem zk.noLs {ds:List PyData}(h:zk ds):L2.noLs ds=true:=by
 induction ds with
 |nil=>rfl
 |cons d r a=>
  have b:=h d zO1;obtain⟨u,i,j,v,f,rfl,_,_,_,hw⟩:=zS b.rule;have c:=a λe he=>h e (zN7 _ he);show(L2.noLs [.str u,.int i,.int j,v]&&L2.noLs r)=true;rw[c,Bool.and_true];show(true&&(true&&(true&&(L2.noL v&&true))))=true;rw[(xR f hw).2];rfl
theorem zs3 {ds:List PyData}(h:L2.noLs ds=true):∀d∈ds,L2.noL d=true:=by
 induction ds with
 |nil=>intro d hd;simp at hd
 |cons e r a=>
  have h':(L2.noL e&&L2.noLs r)=true:=h;rw[zR5]at h';intro d hd;rcases zN6.mp hd with rfl|hd
  ·exact h'.1
  ·exact a h'.2 d hd
theorem pd {ds:List PyData}{v:Int}(v0:0<=v)(a:v.toNat<ds.length):atI ds v=some ds[v.toNat]:=by
 unfold atI ixN;rw[if_pos v0,if_pos (by lia)];show ds[v.toNat]?=_;rw[zN2 a]
theorem zu2 {ds:List PyData}(h:zk ds){d:PyData}(hd:ye d)(j:Int):zk (vR ds j d):=λe he=>by
 unfold vR at he;rcases zP4.mp he with z|z
 ·exact h e (zV1 z)
 ·rcases zN6.mp z with rfl|z
  ·exact hd
  ·exact h e (zT9 z)
theorem zy2 {ds:List PyData}(h:zk ds){d:PyData}(hd:ye d):zk (ds++[d]):=λe he=>by
 rcases zP4.mp he with z|z
 ·exact h e z
 ·rw[zP8.mp z];exact hd
theorem rO {ds:List PyData}(h:zk ds){d:PyData}(hd:ye d)(j:Nat):zk (ds.set j d):=λe he=>by
 rcases List.mem_or_eq_of_mem_set he with z|z
 ·exact h e z
 ·rw[z];exact hd
theorem zv3 {ds:List PyData}(h:zk ds)(j:Nat):zk (ds.eraseIdx j):=λe he=>h e (List.mem_of_mem_eraseIdx he)
section
variable {P:Program}{w:World}{K:PySem.W.Frag}{mg:Str->Option Value}{base:Heap}
theorem zg0 (F:FnD K mg "_law_few" zG9 ["_law_row","_law_day_here","_law_most"])(nb:NbT mg)(n:Cal P w K mg base "_law_take" 1 xp)(CR:Cal P w K mg base "_law_rule" 4 pZ):Cal P w K mg base "_law_few" 5 zi3:=by
 refine yj ["_law_row","_law_day_here","_law_most","_law_rules","_law_k"] F λ_ _ _ _ _ _ _ _ Q nd hr h=>?_;obtain⟨y,rfl,k,m,q⟩:=h;have pr:∀{i j c:Int},0<=i->i<=j->j<=1000000->0<=c->c<=1000->ye (.tuple [.str "price",.int i,.int j,.int c]):=λa b c d e=>ye.of (by simp[words]) a b c (within_int d (by lia)) ((xG (by lia) (by lia)).mono (by decide)) (zO5 _);and_intros;refine ya (λ_=>vd ?_) λ_=>zw ?_
 ·and_intros;exact q _ (zk.nil.snoc (pr (by decide) (by decide) (by decide) (by decide) (by decide))) (by simp)
 refine xo (λα=>∃ds:List PyData,zk ds/\ds.length<=1/\α=[some .tape,some (.dat (.int y)),some (.dat (.int 2)),some (.own ds),none]) ?_ ?_
 ·and_intros;refine ya (λ_=>?_) (λ_=>?_)<;>and_intros
  ·refine⟨by simp,?_⟩;and_intros;exact⟨_,zk.nil.snoc (pr (by split<;>lia) (by split<;>split<;>lia) (by split<;>lia) (by lia) (by lia)),by simp,rfl⟩
  ·exact⟨[],zk.nil,by simp,rfl⟩
 rintro α ⟨ds,f,ld,rfl⟩;refine yy (.one 4) (xH (by rfl) nb.range ?_);and_intros;refine⟨by lia,by lia,?_⟩;refine zM (λi α=>∃(ds:List PyData) (g:Option A),zk ds/\ds.length<=1+i/\α=[some .tape,some (.dat (.int y)),some (.dat (.int 2)),some (.own ds),g]) ⟨ds,none,f,ld,rfl⟩ ?_ ?_
 ·rintro i d α hd ⟨ds,g,f,ld,rfl⟩;have hi:=(zN8.mp hd).1;rw[zN0,zb]at hi;refine⟨_,rfl,?_⟩;and_intros;exact⟨k,by lia,λd l=>⟨by lia,zw ⟨_,_,f.snoc l,by simp;lia,rfl⟩⟩⟩
 ·rintro α ⟨ds,g,f,ld,rfl⟩;rw[zN0,zb]at ld;exact xX 3 rfl (q ds f (by lia))
abbrev NmT :List Str:=["_law_row","_law_rules","_law_day_here","_law_some","_law_at","_law_way","_law_word","_law_first","_law_last","_law_worth_here","_law_one","_law_other"]
theorem dG (F:FnD K mg "_law_turned" zk6 ["_law_row","_law_rules","_law_day_here"])(nb:NbT mg)(o:Cal P w K mg base "_law_take" 1 xp)(CR:Cal P w K mg base "_law_rule" 4 pZ)(CW:Cal P w K mg base "_law_worth" 3 rF):Cal P w K mg base "_law_turned" 5 fN:=by
 refine yj (NmT) F λ_ _ A' _ _ _ _ _ Q nd hr h=>?_;obtain⟨ds,y,rfl,e,ld,Y,y1,q⟩:=h;have O:(1000:Int)<big:=by decide
 refine xx 3 nd (oj (by rfl) nb.list (zc 1 rfl ⟨ds,rfl,?_⟩));refine zY 4 nd (xC o (hr.mono (by decide)) (by rfl) (xV 0 rfl (zl (vj 3 rfl (uB (wF (by rfl) nb.len (zc 3 rfl ⟨_,rfl,zL ⟨_,_,rfl,rfl,rfl,zu ⟨_,rfl,by lia,by lia,λk D k1=>?_⟩⟩⟩)))))));refine zY 5 nd (xC o (hr.mono (by decide)) (by rfl) (xV 0 rfl (zl (zL (zu ⟨_,rfl,by decide,by decide,λg g0 g1=>?_⟩)))));refine xo (λα=>∃(es:List PyData) (S R G L I M s m:Option A),zk es/\es.length<=ds.length+1/\α=[some .tape,some (.dat (.list ds)),some (.dat (.int y)),some (.own es),S,R,G,L,I,M,s,m]) ?_ ?_
 ·have nn:=e.nice (by lia);have C:∀{v:Int},0<=v->v.toNat<ds.length->ixN ds.length v=some v.toNat:=λ{v} v0 f=>by
   unfold ixN;rw[if_pos v0,if_pos (by lia)]
  have nl:∀{v:Int} (f:v.toNat<ds.length),L2.noL ds[v.toNat]=true:=λf=>zs3 e.noLs _ (zS7 f);refine xu (EvT.imp (Q':=λc=>c=false->0<ds.length) ?_ λc x=>?_)
  ·refine vU 3 rfl (EvW.t (zo2 ?_));and_intros;refine wA (λ_=>λz=>by cases z) (λ_=>?_);and_intros;refine eqk nn.shaped (by decide +kernel) nn.nod (by decide +kernel) ?_;cases ds with
   |nil=>exact λz=>by revert z;decide +kernel
   |cons d r=>exact λ_=>z46 _
  cases c with
  |true=>
   refine tN rfl (hJ 3 rfl (zc 4 rfl (xC CR (hr.mono (by decide)) (by rfl) (xV 0 rfl (zl (zc 2 rfl (zu ⟨y,rfl,Y,by lia,λd rd=>⟨k,rfl,by lia,by lia,by lia,?_⟩⟩)))))));exact zw (zw ⟨_,_,_,_,_,_,_,_,_,zu2 e rd k,by rw[oy];lia,rfl⟩)
  |false=>
  have pos:=x rfl;refine wZ rfl ?_;refine xu (EvT.imp (Q':=λc=>c=true->k.toNat<ds.length) ?_ λc x=>?_)
  ·refine vU 3 rfl (EvW.t (oi ?_));and_intros;refine wA (λ_=>?_) (λ_=>λz=>by cases z);and_intros;intro z;have:=zX6 z
   lia
  cases c with
  |true=>
   have hk:=x rfl;refine tN rfl (bu 3 rfl (zc 4 rfl ⟨k,k.toNat,rfl,by lia,by lia,(ox (C D hk)).1,hk,?_⟩))
   repeat refine zw ?_
   exact⟨_,_,_,_,_,_,_,_,_,zv3 e _,by have:=List.length_eraseIdx_le (l:=ds) (i:=k.toNat);lia,rfl⟩
  |false=>
  refine wZ rfl ?_;refine xu ?_;and_intros;refine ya (λ_=>?_) (λ_=>?_)
  ·refine wW 3 rfl (vj 3 rfl (we hr.one (λ_ _=>rfl) (zc 3 rfl (xC o (hr.mono (by decide)) (by rfl) (xV 0 rfl (zl (wF (by rfl) nb.len (zc 3 rfl ⟨_,rfl,zu ⟨_,rfl,by lia,by lia,λv v0 v1=>?_⟩⟩))))))));have f:v.toNat<ds.length:=by lia
   refine ixk rfl rfl (pd v0 f) ⟨nl f,by lia,?_⟩
   repeat refine zw ?_
   exact⟨_,_,_,_,_,_,_,_,_,zy2 e (e _ (zS7 f)),by rw[zQ5];exact zN5 _,rfl⟩
  refine xu (EvT.imp (Q':=λc=>c=true->k.toNat<ds.length) ?_ λc x=>?_)
  ·refine vU 3 rfl (EvW.t (oi ?_));and_intros;refine wA (λ_=>?_) (λ_=>λz=>by cases z);and_intros;intro z;have:=zX6 z
   lia
  cases c with
  |true=>
   have hk:=x rfl;have T:=e _ (zS7 hk);obtain⟨u,a,b,v,H,hd,V,ab,b1,hw⟩:=zS T.rule;have E:atI ds k=some (.tuple [.str u,.int a,.int b,v]):=by rw[pd D hk,hd]
   have p:=nl hk;rw[hd]at p;refine tN rfl ?_;refine kL (pat:=.many [6,7,8,9]) (xI (n:=4) (K:=K) rfl rfl (yb (zD (i:=6) nd rfl (Or.inl rfl)) (yb (zD (i:=7) nd rfl (Or.inl rfl)) (yb (zD (i:=8) nd rfl (Or.inl rfl)) (yb (zD (i:=9) nd rfl (Or.inl rfl)) wb))))) (vj 3 rfl (we hr.one (λ_ _=>rfl) (zc 3 rfl (zc 4 rfl (ixk rfl rfl E ⟨p,⟨_,rfl,?_⟩⟩)))));refine cu 3 rfl ?_;and_intros;rename_i v1 U Z;refine⟨H,λd w1 w2 X=>?_⟩;and_intros;refine⟨k,k.toNat,rfl,C D hk,?_⟩
   repeat refine zw ?_
   exact⟨_,_,_,_,_,_,_,_,_,rO e (ye.of H V (by split<;>lia) (by split<;>lia) w1 w2 X) _,by rw[zS5];lia,rfl⟩
  |false=>
  refine wZ rfl ?_;refine xu ?_;and_intros;refine ya (λ_=>?_) (λ_=>?_)
  ·refine zY 10 nd (xC o (hr.mono (by decide)) (by rfl) (xV 0 rfl (zl (vj 3 rfl (wF (by rfl) nb.len (zc 3 rfl ⟨_,rfl,rfl,zu ⟨_,rfl,by lia,by lia,λi J i1=>?_⟩⟩))))));refine zY 11 nd (xC o (hr.mono (by decide)) (by rfl) (xV 0 rfl (zl (vj 3 rfl (wF (by rfl) nb.len (zc 3 rfl ⟨_,rfl,rfl,zu ⟨_,rfl,by lia,by lia,λj N j1=>?_⟩⟩))))));have hi:i.toNat<ds.length:=by lia
   have B:j.toNat<ds.length:=by lia
   refine zf4 3 rfl rfl (vj 3 rfl (vF (zl (we hr.one (λ_ _=>rfl) (zc 3 rfl (zc 11 rfl (ixk rfl rfl (pd N B) (zl (we hr.one (λ_ _=>rfl) (zc 3 rfl (zc 10 rfl (ixk rfl rfl (pd J hi) (zu ⟨_,rfl,zR3 rfl,?_,_,_,rfl,zc 10 rfl ⟨i,i.toNat,rfl,C J hi,zc 11 rfl ⟨j,j.toNat,rfl,C N B,?_⟩⟩⟩)))))))))))))
   ·show(L2.noL ds[j.toNat]&&(L2.noL ds[i.toNat]&&true))=true;rw[nl hi,nl B];rfl
   ·repeat refine zw ?_
    exact⟨_,_,_,_,_,_,_,_,_,rO (rO e (e _ (zS7 B)) _) (e _ (zS7 hi)) _,by rw[zS5,zS5];lia,rfl⟩
  ·repeat refine zw ?_
   exact⟨_,_,_,_,_,_,_,_,_,e,by lia,rfl⟩
 ·rintro α ⟨es,S,R,G,L,I,M,s,m,re,le,rfl⟩;exact xX 3 rfl (q es re le)
end
abbrev zk9 :Stmt:=top 63
abbrev zA0 :Stmt:=top 64
def jy :Ph:=λas Q=>∃y:Int,as=[.tape,.dat (.int y)]/\0<=y/\y<=999990/\∀ds es,zk ds->zk es->ds.length<=12->es.length<=12->Q (.dat (.tuple [.list ds,.list es]))
theorem qX {x:Str}{a b c:Int}(f:x∈words)(h:zQ (.str x) (.int c)=true)(e:0<=a)(d:a<=b)(g:b<=1000000)(j:0<=c)(i:c<=1000):ye (.tuple [.str x,.int a,.int b,.int c]):=ye.of f e d g h ((xG (by lia) (by lia)).mono (by decide)) (zO5 _)
theorem iI {a b m f:Int}(d:0<=a)(c:a<=b)(e:b<=1000000)(m0:2<=m)(m1:m<=14)(f0:1<=f)(f1:f<=m-1):ye (.tuple [.str "deal",.int a,.int b,.tuple [.int m,.int f]]):=ye.of (by simp[words]) d c e (zX2.mpr ⟨within_int m0 m1,within_int f0 f1⟩) (zZ.tuple (n:=2000) (zX.two (xG (by lia) (by lia)) (xG (by lia) (by lia)) (zO5 _) (zO5 _)) (by show 2*(2000+2)+3<=5000;decide)) (zN5 _)
theorem zk.one {d:PyData}(h:ye d):zk [d]:=zk.nil.snoc h
section
variable {P:Program}{w:World}{K:PySem.W.Frag}{mg:Str->Option Value}{base:Heap}
theorem bQ (F:FnD K mg "_law_long" zk9 ["_law_row","_law_day_here"])(nb:NbT mg)(D:Cal P w K mg base "_law_take" 1 xp):Cal P w K mg base "_law_long" 2 jy:=by
 refine yj ["_law_row","_law_day_here","_law_first","_law_rules","_law_come","_law_few_here","_law_many","_law_way","_law_hidden"] F λ_ _ _ _ _ _ _ _ Q nd hr h=>?_;obtain⟨y,rfl,E,C,q⟩:=h;refine xo (λα=>∃f:Int,0<=f/\f<=999986/\α=[some .tape,some (.dat (.int y)),some (.dat (.int f)),none,none,none,none,none,none]) ?_ ?_
 ·and_intros;refine⟨_,?_,?_,rfl⟩<;>repeat split
  all_goals lia
 rintro α ⟨f,f0,f1,rfl⟩;and_intros;rename_i c G A k I J v v0 v1;refine kJ 8 ["_law_k"] [none] (.one 0) (xH (by rfl) nb.range ?_);and_intros;refine⟨by lia,by lia,by rw[zN0,zb];lia,?_⟩;refine xK (λz=>.tuple [.str "fee",.int (400000+3*z),.int (400000+3*z),.int (1+z)]) (λz _=>⟨_,rfl,λ_ _ _ _ _ k=>?_⟩) ?_
 ·and_intros;refine⟨.inl ⟨by decide,by decide⟩,?_⟩;and_intros;refine⟨.inl ⟨by decide,by decide⟩,?_⟩;and_intros;exact k
 rw[zU9];rename_i u H B;have n:zk ((zp 0 u.toNat).map λz=>.tuple [.str "fee",.int (400000+3*z),.int (400000+3*z),.int (1+z)]):=λd hd=>by
  obtain⟨z,hz,rfl⟩:=zY6.mp hd;have hz:=zK.mp hz;exact qX (by simp[words]) (within_int (by lia) (by lia)) (by lia) (by lia) (by lia) (by lia) (by lia)
 have l1:((zp 0 u.toNat).map λz=>PyData.tuple [.str "fee",.int (400000+3*z),.int (400000+3*z),.int (1+z)]).length<=8:=by rw[zN0,zb];lia
 generalize (zp 0 u.toNat).map (λz=>PyData.tuple [.str "fee",.int (400000+3*z),.int (400000+3*z),.int (1+z)])=e at n l1;refine uN 8 rfl ?_;have pr:∀{z:Int},0<=z->z<=1000->ye (.tuple [.str "price",.int f,.int (f+13),.int z]):=λr t=>qX (by simp[words]) (within_int r (by lia)) f0 (by lia) (by lia) r t;have fin:∀e:List PyData,zk e->e.length<=8->∀fs g,zk fs->zk g->fs.length<=1->g.length<=1->Q (.dat (.tuple [.list (e++[.tuple [.str "price",.int f,.int (f+13),.int (c+4)]]++fs),.list (e++[.tuple [.str "price",.int f,.int (f+13),.int (c+4)]]++g)])):=λe h l fs g hf hg lf i=>q _ _ ((h.snoc (pr (by lia) (by lia))).app hf) ((h.snoc (pr (by lia) (by lia))).app hg) (by simp;lia) (by simp;lia);have io:∀{x:Str} {z:Int},x∈words->zQ (.str x) (.int z)=true->0<=z->z<=1000->ye (.tuple [.str x,.int (f+k),.int (f+k),.int z]):=λa b c d=>qX a b (by lia) (by lia) (by lia) c d;have j:∀{m:Int},2<=m->m<=14->ye (.tuple [.str "deal",.int (f+k),.int (f+k+2),.tuple [.int m,.int 1]]):=λa b=>iI (by lia) (by lia) (by lia) a b (by decide) (by lia);and_intros;refine ya (λ_=>?_) λ_=>?_
 ·refine kJ 8 ["_law_k","_law_first"] [none,some 2] (.one 0) (xH (by rfl) nb.range ?_);and_intros;refine⟨by lia,by lia,by rw[zN0,zb];lia,?_⟩;refine xK (λz=>.tuple [.str "price",.int f,.int (f+13),.int z]) (λz _=>⟨_,rfl,λ_ _ _ _ _ k=>?_⟩) ?_
  ·and_intros;exact k
  rw[zU9];have s:zk ((zp 0 ((e.length:Nat):Int).toNat).map λz=>.tuple [.str "price",.int f,.int (f+13),.int z]):=λd hd=>by
   obtain⟨z,hz,rfl⟩:=zY6.mp hd;have hz:=zK.mp hz;exact pr (by lia) (by lia)
  have l2:((zp 0 ((e.length:Nat):Int).toNat).map λz=>PyData.tuple [.str "price",.int f,.int (f+13),.int z]).length<=8:=by rw[zN0,zb];lia
  clear n l1;generalize (zp 0 ((e.length:Nat):Int).toNat).map (λz=>PyData.tuple [.str "price",.int f,.int (f+13),.int z])=e at s l2;refine uN 8 rfl (zw (yI (vF ?_)));refine zl (EvL.d (yA (EvL.d (yA (zc 8 rfl (zc 3 rfl ⟨_,_,rfl,rfl,by simp;lia,?_⟩))))));refine we hr.one (λ_ _=>rfl) (zc 5 rfl (zc 7 rfl ?_));refine vW (λd=>∃fs,d=.list fs/\zk fs/\fs.length<=1) rfl v0 v1 ⟨⟨_,rfl,.one (io (by simp[words]) rfl (by decide) (by decide)),by simp⟩,⟨_,rfl,.one (io (by simp[words]) rfl (by decide) (by decide)),by simp⟩,⟨_,rfl,.one (j (by decide) (by decide)),by simp⟩,⟨[],rfl,zk.nil,by simp⟩,trivial⟩ ?_;rintro _ ⟨fs,rfl,p,lf⟩;refine⟨_,_,rfl,rfl,by simp;lia,?_⟩;refine zl (EvL.d (yA (EvL.d (yA (zc 8 rfl (zc 3 rfl ⟨_,_,rfl,rfl,by simp;lia,?_⟩))))));refine we hr.one (λ_ _=>rfl) (zc 6 rfl (zc 7 rfl ?_));refine vW (λd=>∃fs,d=.list fs/\zk fs/\fs.length<=1) rfl v0 v1 ⟨⟨[],rfl,zk.nil,by simp⟩,⟨_,rfl,.one (io (by simp[words]) rfl (by decide) (by decide)),by simp⟩,⟨_,rfl,.one (j (by decide) (by decide)),by simp⟩,⟨[],rfl,zk.nil,by simp⟩,trivial⟩ ?_;rintro _ ⟨g,rfl,o,i⟩;exact⟨_,_,rfl,rfl,by simp;lia,zu ⟨_,rfl,zR3 rfl,fin e s l2 fs g p o lf i⟩⟩
 ·refine zw (yI (vF ?_));refine zl (EvL.d (yA (EvL.d (yA (zc 8 rfl (zc 3 rfl ⟨_,_,rfl,rfl,by simp;lia,?_⟩))))));refine we hr.one (λ_ _=>rfl) (zc 5 rfl (zc 7 rfl ?_));refine vW (λd=>∃fs,d=.list fs/\zk fs/\fs.length<=1) rfl v0 v1 ⟨⟨_,rfl,.one (io (by simp[words]) rfl (by decide) (by decide)),by simp⟩,⟨_,rfl,.one (io (by simp[words]) rfl (by decide) (by decide)),by simp⟩,⟨_,rfl,.one (j (by decide) (by decide)),by simp⟩,⟨[],rfl,zk.nil,by simp⟩,trivial⟩ ?_;rintro _ ⟨fs,rfl,p,lf⟩;refine⟨_,_,rfl,rfl,by simp;lia,?_⟩;refine zl (EvL.d (yA (EvL.d (yA (zc 8 rfl (zc 3 rfl ⟨_,_,rfl,rfl,by simp;lia,?_⟩))))));refine we hr.one (λ_ _=>rfl) (zc 6 rfl (zc 7 rfl ?_));refine vW (λd=>∃fs,d=.list fs/\zk fs/\fs.length<=1) rfl v0 v1 ⟨⟨[],rfl,zk.nil,by simp⟩,⟨_,rfl,.one (io (by simp[words]) rfl (by decide) (by decide)),by simp⟩,⟨_,rfl,.one (j (by decide) (by decide)),by simp⟩,⟨[],rfl,zk.nil,by simp⟩,trivial⟩ ?_;rintro _ ⟨g,rfl,o,i⟩;exact⟨_,_,rfl,rfl,by simp;lia,zu ⟨_,rfl,zR3 rfl,fin e n l1 fs g p o lf i⟩⟩
theorem cH (F:FnD K mg "_law_two" zA0 ["_law_row","_law_day_here"])(nb:NbT mg)(g:Cal P w K mg base "_law_take" 1 xp)(f:Cal P w K mg base "_law_long" 2 jy)(e:Cal P w K mg base "_law_few" 5 zi3)(d:Cal P w K mg base "_law_turned" 5 fN):Cal P w K mg base "_law_two" 6 jy:=by
 refine yj ["_law_row","_law_day_here","_law_mine"] F λ_ _ _ _ _ _ _ _ Q nd hr h=>?_;obtain⟨y,rfl,a,b,q⟩:=h;and_intros;refine ya (λ_=>?_) λ_=>?_<;>and_intros
 ·exact⟨a,b,q⟩
 refine⟨a,b,λds c ld=>?_⟩;and_intros;refine ya (λ_=>?_) λ_=>?_<;>and_intros
 ·refine⟨ds,y,rfl,c,by lia,a,b,λes re le=>?_⟩;and_intros;exact q _ _ c re (by lia) (by lia)
 ·refine⟨a,b,λes re le=>?_⟩;and_intros;exact q _ _ c re (by lia) (by lia)
end
abbrev cZ :Stmt:=top 65
abbrev zH1 :Stmt:=top 66
abbrev kM :Stmt:=top 67
def zI3 :Ph:=λas Q=>∃(ds es:List PyData) (n:Nat),as=[.dat (.list [.list ds,.list es]),.dat (.int n)]/\(∀d∈ds++es,yi d=true)/\(ds++es).length<=24/\1<=n/\n<=14/\∀ys:List Int,Trn (ds++es) n ys->ys.Pairwise (·<=·)->ys.length<=1000->Q (.dat (.list (ys.map .int)))
def zm4 :Ph:=λas Q=>∃ds es:List PyData,as=[.dat (.list ds),.dat (.list es)]/\zk ds/\zk es/\ds.length<=12/\es.length<=12/\∀q,Apt ds es q->Q (.dat (mn ds es q))
def zg3 (n:Nat)(rs:List PyData)(fs:List Int):Prop:=∀u a b v,PyData.tuple [.str u,.int a,.int b,v]∈rs->∀e,e=a\/e=b+1->∀y:Int,e-n<=y->y<=e->y∈fs
section
variable {P:Program}{w:World}{K:PySem.W.Frag}{mg:Str->Option Value}{base:Heap}{cs:Cs}
theorem gB (F:FnD K mg "_law_comes" cZ ["_law_books","_law_nights"])(nb:NbT mg)(E:mg "set"=none):Cal P w K mg base "_law_comes" 1 zI3:=by
 refine yj ["_law_books","_law_nights","_law_days","_law_rules","_law_word","_law_first","_law_last","_law_worth_here","_law_edge"] F λ_ _ _ _ _ _ _ _ Q nd hr h=>?_;obtain⟨ds,es,n,rfl,V,ld,n1,n2,q⟩:=h;refine xx 2 nd ?_;and_intros;refine yy (.one 3) (yg (zc 0 rfl ⟨_,rfl,?_⟩));refine zM (λi α=>∃(fs:List Int) (N o m g l c:Option A),0∈fs/\zg3 n (([ds,es].take i).flatten) fs/\fs.length<=1+30*(([ds,es].take i).flatten).length/\α=[some (.dat (.list [.list ds,.list es])),some (.dat (.int n)),some (.own (fs.map .int)),N,o,m,g,l,c]) ⟨[0],none,none,none,none,none,none,by simp,λu a b v h=>by simp at h,by simp,rfl⟩ ?_ ?_
 ·rintro i d α hd ⟨fs,N,o,m,g,l,c,f,hf,lf,rfl⟩;have hd:(([ds,es]:List (List PyData)).map PyData.list)[i]?=some d:=hd;rw[zO8,zQ0]at hd;obtain⟨rs,s,rfl⟩:=hd;have tk:([ds,es].take (i+1)).flatten=([ds,es].take i).flatten++rs:=by rw[z63 s,List.flatten_append];simp
  have O:(([ds,es].take (i+1)).flatten).length<=24:=by
   have hi:=(zN8.mp s).1;rcases(show i=0\/i=1 by simp at hi;lia)with rfl|rfl<;>simp at ld ⊢<;>lia
  rw[tk];rw[tk]at O;generalize ([ds,es].take i).flatten=pre at hf lf O;have T:∀d∈rs,yi d=true:=λd' hm=>V d' (by
   have:=zR1 s;simp at this;rcases this with rfl|rfl
   ·exact zP6 _ hm
   ·exact zO6 _ hm)
  refine⟨_,rfl,yy (.many [4,5,6,7]) (yg (zc 3 rfl ⟨_,rfl,?_⟩))⟩;refine zM (λj α=>∃(fs:List Int) (o m g l c:Option A),0∈fs/\zg3 n (pre++rs.take j) fs/\fs.length<=1+30*(pre++rs.take j).length/\α=[some (.dat (.list [.list ds,.list es])),some (.dat (.int n)),some (.own (fs.map .int)),some (.dat (.list rs)),o,m,g,l,c]) ⟨fs,o,m,g,l,c,f,by simpa using hf,by simpa using lf,rfl⟩ ?_ ?_
  ·rintro j d α hd ⟨fs,o,m,g,l,c,f,hf,lf,rfl⟩;have hj:=(zN8.mp hd).1;have tk:=z63 hd;have l2:(pre++rs.take j).length<=23:=by simp at O ⊢;lia
   obtain⟨u,a,b,v,Y,rfl,Z,ab,b1,hw⟩:=zS (T d (zR1 hd));rw[tk,<-zQ1];generalize pre++rs.take j=pre at hf lf l2;refine⟨_,rfl,yy (.one 8) (cI (vF (zl (zc 5 rfl (zl (uB (zc 6 rfl (zL ⟨_,_,rfl,rfl,zu ⟨_,rfl,zR3 rfl,_,rfl,?_⟩⟩))))))))⟩;refine zM (λk α=>∃(fs:List Int) (c:Option A),0∈fs/\zg3 n pre fs/\(∀e∈([a,b+1]:List Int).take k,∀y:Int,e-n<=y->y<=e->y∈fs)/\fs.length<=1+30*pre.length+15*k/\α=[some (.dat (.list [.list ds,.list es])),some (.dat (.int n)),some (.own (fs.map .int)),some (.dat (.list rs)),some (.dat (.str u)),some (.dat (.int a)),some (.dat (.int b)),some (.dat v),c]) ⟨fs,c,f,hf,λe h=>by simp at h,by lia,rfl⟩ ?_ ?_
   ·rintro k d α hd ⟨fs,c,f,hf,he,lf,rfl⟩;have hd:(([a,b+1]:List Int).map PyData.int)[k]?=some d:=hd;rw[zO8,zQ0]at hd;obtain⟨e,hk,rfl⟩:=hd;have S:=(zN8.mp hk).1;have S:k<2:=S;refine⟨_,rfl,uM 2 rfl (EvL.d (sY ["_law_k","_law_edge","_law_nights"] [none,some 8,some 1] (.one 0) (xH (by rfl) nb.range ?_)))⟩;and_intros;refine⟨by lia,by lia,by rw[zN0,zb];lia,?_⟩;refine xK (λz=>.int (e-n+z)) (λz _=>⟨_,rfl,λ_ _ _ _ _ k=>?_⟩) ?_
    ·and_intros;exact k
    refine⟨_,rfl,by rw[zU9,zN0,zN0,zb];lia,zw ⟨fs++(zp 0 ((n:Int)+1).toNat).map λz=>e-n+z,_,zP6 _ f,λI L J M h D e1 y r p=>zP6 _ (hf I L J M h D e1 y r p),λD h y r p=>?_,by rw[zQ5,zN0,zb];lia,by rw[zY7,z60]<;>rfl⟩⟩;rw[z63 hk]at h;rcases zP4.mp h with h|h
    ·exact zP6 _ (he D h y r p)
    ·rw[zP8.mp h]at r p;exact zO6 _ (zY6.mpr ⟨y-(e-n),zK.mpr ⟨by lia,by lia⟩,by lia⟩)
   ·rintro α ⟨fs,c,f,hf,he,lf,rfl⟩;and_intros;refine⟨fs,_,_,_,_,_,f,λI L J M h D e1 y r p=>?_,by simp at lf ⊢;lia,rfl⟩;rcases zP4.mp h with h|h
    ·exact hf I L J M h D e1 y r p
    ·have h:=zP8.mp h;injection h with h;injection h with R h;injection h with H h;injection h with G h;injection H with H;injection G with G;subst H G;exact he D (by rcases e1 with e1|e1<;>simp[e1]) y r p
  ·rintro α ⟨fs,o,m,g,l,c,f,hf,lf,rfl⟩;rw[zU3]at hf lf;and_intros;exact⟨fs,_,_,_,_,_,_,f,hf,lf,rfl⟩
 ·rintro α ⟨fs,N,o,m,g,l,c,f,hf,lf,rfl⟩;have hf:zg3 n (ds++es) fs:=by simpa using hf
  have lf:fs.length<=1+30*(ds++es).length:=by simpa using lf
  refine uN 2 rfl (yI (EvL.d (sY ["_law_come","_law_nights"] [none,some 1] (.one 0) (yg (EvL.d (tj rfl (by rfl) nb.sorted (by rfl) E (zc 2 rfl ⟨fs,rfl,by lia,λys U up X=>⟨_,rfl,by rw[zN0];lia,?_⟩⟩)))))));refine sS (λd:Int=>decide (0<=d)&&decide (d<=1000000-(n:Int))) .int (λd hd=>⟨_,rfl,λ_ _ _ _ _ k=>sN ?_,λ_ _ _ _ _ _ k=>?_⟩) ?_
  ·and_intros;refine wA (λh=>?_) λh=>?_
   ·and_intros;rw[h]at k;exact k
   ·rw[h]at k;exact k
  ·and_intros;exact k
  rw[zU9];have t:∀{y:Int},y∈fs->0<=y->y+n<=1000000->y∈ys.filter λd:Int=>decide (0<=d)&&decide (d<=1000000-(n:Int)):=λ{y} R H G=>z08.mpr ⟨(U y).mpr R,by simp;lia⟩;have mb:∀y∈ys.filter λd:Int=>decide (0<=d)&&decide (d<=1000000-(n:Int)),0<=y/\y+n<=1000000:=λy hy=>by
   have:=(z08.mp hy).2;simp at this
   lia
  refine q _ ⟨t f (zV3 _) (by lia),λy hy=>(mb y hy).1,λy hy=>(mb y hy).2,λx a b v hm d B C=>?_⟩ ((up.imp λh=>z06 h).filter _) (by have:=z79 (λd:Int=>decide (0<=d)&&decide (d<=1000000-(n:Int))) ys;lia);have hf:=hf x a b v hm;refine⟨λ_ h=>?_,λ_ _ h=>?_,λ_ i hi h=>?_⟩
  ·rcases h with h|h
   ·exact t (hf a (.inl rfl) d (by lia) (by lia)) B C
   ·exact t (hf (b+1) (.inr rfl) d (by lia) (by lia)) B C
  ·rcases h with h|h
   ·exact t (hf a (.inl rfl) d (by lia) (by lia)) B C
   ·exact t (hf (b+1) (.inr rfl) d (by lia) (by lia)) B C
  ·rcases h with h|h
   ·exact t (hf a (.inl rfl) d (by lia) (by lia)) B C
   ·exact t (hf (b+1) (.inr rfl) d (by lia) (by lia)) B C
theorem zf3 (F:FnD K mg "_law_due" zH1 ["_law_one","_law_other"])(nb:NbT mg)(s:Cal P w K mg base "_law_comes" 1 zI3)(v:Cal P w K mg base "_law_price" 2 zE5):Cal P w K mg base "_law_due" 3 zm4:=by
 refine yj ["_law_one","_law_other","_law_nights","_law_come","_law_mine","_law_theirs"] F λ_ _ u _ _ _ _ _ Q nd hr h=>?_;obtain⟨ds,es,rfl,o,re,ld,le,q⟩:=h;refine yy (.one 2) (uT (by rfl) nb.range ?_);and_intros;refine⟨⟨by decide,by decide,by decide,by decide⟩,?_⟩;refine zM (λi α=>∃p c g f:Option A,(∀m:Nat,1<=m->m<1+i->qC ds es m)/\α=[some (.dat (.list ds)),some (.dat (.list es)),p,c,g,f]) ⟨none,none,none,none,λm a b=>by lia,rfl⟩ ?_ ?_
 ·rintro i d α hd ⟨p,c,g,f,k,rfl⟩;rw[zO8,zQ0]at hd;obtain⟨z,hz,rfl⟩:=hd;have hi:=(zN8.mp hz).1;rw[zb]at hi;have hi:i<14:=hi;obtain rfl:z=((1+i:Nat):Int):=by rw[yB (by exact hi)]at hz;cases hz;lia
  have n1:1<=1+i:=by lia
  have n2:1+i<=14:=by lia
  generalize hn:1+i=n at k n1 n2;refine⟨_,rfl,yy (.one 3) (yg (xC s (hr.mono (by decide)) (by rfl) ?_))⟩;refine zl (EvL.d (xQ (zl (zc 0 rfl (zl (zc 1 rfl (zu ⟨_,rfl,zR3 rfl,zl (zc 2 rfl (zu ⟨ds,es,n,rfl,λd hd=>(zP4.mp hd).elim (o.all d) (re.all d),by simp;lia,n1,n2,λys T up t=>⟨_,rfl,?_⟩⟩))⟩)))))));refine zM (λj α=>∃c g f:Option A,(∀z∈ys.take j,coO ds z (z+n)=coO es z (z+n))/\α=[some (.dat (.list ds)),some (.dat (.list es)),some (.dat (.int n)),c,g,f]) ⟨c,g,f,λz h=>by simp at h,rfl⟩ ?_ ?_
  ·rintro j d α hd ⟨c,g,f,l,rfl⟩;rw[zO8,zQ0]at hd;obtain⟨y,hy,rfl⟩:=hd;have r:=zR1 hy;have sb:rW y (y+n):=⟨T.lo y r,by lia,by lia,T.hi y r⟩;refine⟨_,rfl,?_⟩;and_intros;refine⟨ds,y,y+n,rfl,o,sb,?_⟩;and_intros;refine⟨es,y,y+n,rfl,re,sb,?_⟩;and_intros;refine eqk (yD _).1 (yD _).1 (yD _).2 (yD _).2 ?_;rw[show PyData.eqv (A.dat (oD (coO ds y (y+n)))).d (A.dat (oD (coO es y (y+n)))).d=decide (coO ds y (y+n)=coO es y (y+n))from ag _ _];refine ya (λh=>?_) λh=>?_
   ·and_intros;exact q (some (n,y)) (T.fst o.all re.all up n1 n2 k hy l (by simpa using h))
   ·and_intros;refine⟨_,_,_,λz hz=>?_,rfl⟩;rw[z63 hy]at hz;rcases zP4.mp hz with hz|hz
    ·exact l z hz
    ·rw[zP8.mp hz];simpa using h
  ·rintro α ⟨c,g,f,l,rfl⟩;rw[zN0,zU3]at l;and_intros;refine⟨_,_,_,_,λm m1 m2=>?_,rfl⟩;by_cases e:m<n
   ·exact k m m1 e
   ·obtain rfl:m=n:=by lia
    exact T.all o.all re.all l
 ·rintro α ⟨p,c,g,f,k,rfl⟩;and_intros;exact q none λm m1 m2=>k m m1 (by rw[zN0,zb];show m<1+14;lia)
end
abbrev oe :Stmt:=top 68
theorem kX {x y:PyData}{Q:Bool->Prop}{b:Bool}(s1:SeqAt.shaped x=true)(s2:SeqAt.shaped y=true)(a:x.hasDict=false)(c:y.hasDict=false)(e:PyData.eqv x y=b)(h:Q b):qZ x y Q:=eqk s1 s2 a c (by rw[e];exact h)
theorem rX (a b:Int)(x y:Option Int):PyData.eqv (.tuple [.tuple [.int a,.int b],oD x,oD y]) (.tuple [.tuple [.int a,.int b],oD x,oD y])=true/\SeqAt.shaped (.tuple [.tuple [.int a,.int b],oD x,oD y])=true/\(PyData.tuple [.tuple [.int a,.int b],oD x,oD y]).hasDict=false:=by
 cases x<;>cases y<;>exact⟨by simp[oD,PyData.eqv,PyData.eqvAll],rfl,rfl⟩
theorem ze4 {ds es:List PyData}{q:Option (Nat×Int)}{Q:Bool->Prop}(h:Q true):qZ (mn ds es q) (mn ds es q) Q:=by
 cases q with
 |none=>exact eqk rfl rfl rfl rfl h
 |some q=>
  have k:=rX q.2 (q.2+q.1) (coO ds q.2 (q.2+q.1)) (coO es q.2 (q.2+q.1));exact kX k.2.1 k.2.1 k.2.2 k.2.2 k.1 h
def zE9 :Ph:=λas Q=>∃(ds es:List PyData) (q:Option (Nat×Int)),as=[.dat (mn ds es q)]/\Q (.dat (.bool true))
section
variable {P:Program}{w:World}{K:PySem.W.Frag}{mg:Str->Option Value}{base:Heap}{cs:Cs}
theorem lq (F:FnD K mg "_law_whole" kM ["_law_found"])(nb:NbT mg):Cal P w K mg base "_law_whole" 1 zE9:=by
 refine yj ["_law_found"] F λ_ _ _ _ _ _ _ _ Q nd hr h=>?_;obtain⟨ds,es,q,rfl,h⟩:=h;cases q with
 |none=>
  and_intros;exact h
 |some q=>
  show SvS _ [some (.dat (.tuple [.tuple [.int q.2,.int (q.2+q.1)],oD (coO ds q.2 (q.2+q.1)),oD (coO es q.2 (q.2+q.1))]))] _ _;generalize q.2+(q.1:Int)=b;generalize q.2=a;generalize coO ds a b=x;generalize coO es a b=y;and_intros;have c:=(rX a b x y).2.2;have hb:∀d∈[PyData.int a,.int b]++[oD x,oD y],d.hasDict=false/\dF "bool" d=some false:=λd hd=>by
   simp only[z29,zU9,zN6,zP0,zR9]at hd;rcases hd with rfl|rfl|rfl|rfl
   ·exact⟨rfl,rfl⟩
   ·exact⟨rfl,rfl⟩
   ·cases x<;>exact⟨rfl,rfl⟩
   ·cases y<;>exact⟨rfl,rfl⟩
  refine⟨true,c,rfl,true,rfl,?_⟩;and_intros;refine EvL.d (sY ["_law_one"] [none] (.one 0) (cI (za4 (yz (λ_ _=>rfl) (zc 0 rfl (zL ⟨_,_,_,rfl,rfl,rfl,zt1 (zc 0 rfl ?_)⟩))))));and_intros;refine⟨λh=>absurd (show HT.sIx 3 0 (some 1)=0 from h.1) (by decide),_,_,rfl,rfl,by simp,zR3 rfl,_,rfl,zR3 rfl,?_⟩;refine xZ (λ_=>false) id (λd hd=>⟨_,rfl,λ_ _ _ _ _ k=>sN ?_,λe=>by cases e⟩) ?_
  ·and_intros;exact⟨false,(hb d hd).1,(hb d hd).2,false,rfl,k⟩
  and_intros;exact h
abbrev nLa :List Str:=["_law_script","_law_cell","_law_row","_law_day_here","_law_mine","_law_theirs","_law_due_here","_law_one","_law_other","_law_found","_law_turned_here"]
theorem zz5 :zW nLa ["_law_script"] (zg oe):=.o
theorem fg {X:Cx}{α α0:Ev}{E:yo}{b:List Stmt}(c:α0.length=α.length)(le:∀(i:Nat) a,α0[i]?=some (some a)->α[i]?=some (some a))(h:SvS X α0 b E):SvS X α b E:=λF σ H D m r=>h F σ H D (m.forget c le) r
theorem ze9 {α:Ev}{n:Nat}{a:A}(c:α.length=n+2):∀(i:Nat) b,((none:Option A)::some a::List.replicate n none)[i]?=some (some b)->(α.set 1 (some a))[i]?=some (some b):=by
 intro i b h;rcases i with _|_|i
 ·cases h
 ·rw[zW1 (by lia)];exact h
 ·simp only[z65,zV9]at h;split at h<;>cases h
theorem zv7 {f C:Addr}{fd:FuncData}(F:Fun K "law" "law" oe f fd)(nb:NbT mg)(v:Cal P w K mg base "_law_begin" 1 jZ)(I:Cal P w K mg base "_law_day" 2 bK)(J:Cal P w K mg base "_law_two" 6 jy)(u:Cal P w K mg base "_law_due" 3 zm4)(N:uI P w K mg base "Book" 9 [] (pT C cs))(O:Cal P w K mg base "apart" 7 (zl3 C cs))(B:Cal P w K mg base "_law_whole" 1 zE9)(A:xt P w K mg base C "rules" 3 (pP C cs)):yK P w K mg base CX0 11 f fd ["_law_script"] (ml K):=by
 refine zJ4 (k:=10) (j:=1) F zz5 rfl (Or.inl rfl) rfl (Or.inl rfl) (λcdv G outer s H E zs hr D=>?_);have nd:=zz5.nd;refine zM (λi α=>α.length=11) (by simp) ?_ ?_
 ·intro i d α hd l;rw[zO8,zQ0]at hd;obtain⟨z,hz,rfl⟩:=hd;refine⟨_,rfl,?_⟩;refine fg (α0:=none::some (.dat (.int z))::List.replicate 9 none) (by rw[zS5,l];rfl) (ze9 l) ?_;refine xx 2 nd (wK v (hr.mono (by decide)) (by rfl) (zl (zc 1 rfl (zu ⟨z,rfl,λx y r o=>⟨_,rfl,?_⟩⟩))));refine zw9 2 rfl r o ?_;have ln:∀g:Ev,g.length=11->(yU g).length=11:=λg h=>by unfold yU;rw[zN0];exact h
  refine zY 3 nd ?_;and_intros;refine⟨rfl,λm p t=>?_⟩;refine xo (λα=>∃ds es,zk ds/\zk es/\ds.length<=12/\es.length<=12/\α=[none,some (.dat (.int z)),some .tape,some (.dat (.int m)),some (.dat (.list ds)),some (.dat (.list es)),none,none,none,none,none]) ?_ ?_
  ·refine kL (pat:=.many [4,5]) (xI rfl rfl (yb (zD nd rfl (Or.inl rfl)) (yb (zD nd rfl (Or.inl rfl)) wb))) ?_;and_intros;exact⟨p,t,λds es e re ld le=>⟨_,rfl,zw ⟨ds,es,e,re,ld,le,rfl⟩⟩⟩
  rintro α ⟨ds,es,e,re,ld,le,rfl⟩;and_intros;refine⟨ds,es,rfl,e,re,ld,le,λq a=>?_⟩;and_intros;refine⟨ds,.inl rfl,e.rules,by lia,?_⟩;and_intros;refine⟨es,.inl rfl,re.rules,by lia,?_⟩;and_intros;refine⟨ds,es,rfl,e,re,ld,le,λL a2=>?_⟩;cases kN a2 a;and_intros;refine ze4 ?_;and_intros;refine⟨ds,es,q,rfl,?_⟩;and_intros;refine⟨es,ds,rfl,re,e,le,ld,λM n=>?_⟩;cases kN n (du a);have c:=e.nice (by lia);have b:=re.nice (by lia);refine xo (λα=>α=[none,some (.dat (.int z)),some .tape,some (.dat (.int m)),some (.dat (.list ds)),some (.dat (.list es)),some (.dat (mn ds es q)),some (.dat (yx C cs ds)),some (.dat (yx C cs es)),some (.dat (mn ds es q)),some (.dat (mn es ds q))]) ?_ ?_
  ·cases q with
   |none=>
    and_intros;rfl
   |some q=>
    and_intros;have k:=rX q.2 (q.2+q.1) (coO es q.2 (q.2+q.1)) (coO ds q.2 (q.2+q.1));refine kX k.2.1 k.2.1 k.2.2 k.2.2 k.1 ?_;and_intros;rfl
  rintro α rfl;and_intros;refine⟨e.rules,by lia,?_⟩;and_intros;refine kX c.shaped c.shaped c.nod c.nod (SeqAt.eqv_refl _ c.lay) ?_;and_intros;refine⟨re.rules,by lia,?_⟩;and_intros;refine kX b.shaped b.shaped b.nod b.nod (SeqAt.eqv_refl _ b.lay) ?_;and_intros;exact ln _ rfl
 ·intro α _;exact yI (cX rfl)
end
theorem us1 {α:Type}{p:List α->Prop}(h:∀a,p [a])(us:List α)(b:us.length=1):p us:=by
 obtain⟨a,rfl⟩:=List.length_eq_one_iff.mp b;exact h a
theorem us2 {α:Type}{p:List α->Prop}(h:∀a b,p [a,b])(us:List α)(c:us.length=2):p us:=by
 cases us with
 |nil=>cases c
 |cons a us=>exact us1 (p:=λus=>p (a::us)) (h a) us (z88 c)
theorem us3 {α:Type}{p:List α->Prop}(h:∀a b c,p [a,b,c])(us:List α)(d:us.length=3):p us:=by
 cases us with
 |nil=>cases d
 |cons a us=>exact us2 (p:=λus=>p (a::us)) (h a) us (z88 d)
theorem us4 {α:Type}{p:List α->Prop}(h:∀a b c d,p [a,b,c,d])(us:List α)(e:us.length=4):p us:=by
 cases us with
 |nil=>cases e
 |cons a us=>exact us3 (p:=λus=>p (a::us)) (h a) us (z88 e)
def FnF (K:PySem.W.Frag)(f:Addr)(nm a:Str)(st:Stmt)(ps:List Str):Prop:=∃fd,Fun K nm a st f fd/\Binds K fd ps []
section
variable {K:PySem.W.Frag}{h0:Heap}{mg:Str->Option Value}{f:Addr}{nm ql:Str}{st:Stmt}{ps:List Str}{oc kV dc pm cd ct:Value}{od an:Option Addr}{sl:Array (Option Value)}
theorem mkF (l:K.lookup f=some ⟨oc,od,.func (PySem.W.fnOf nm ql (zP st) (zv st) (zg st) .none kV dc pm an cd ct),sl⟩)(c:PySem.W.codeIn K cd ql=true)(k:PySem.W.keepIn K (.ref f)=true)
  (hb:∀(kV doc pm:Value) (an:Option Addr) (cdv ct:Value) (us:List Value),us.length=ps.length->bindArgs (PySem.W.fnOf nm ql (zP st) (zv st) (zg st) .none kV doc pm an cdv ct) ⟨us,[]⟩=pure (ps.zip us):=by intro _ _ _ _ _ _;first|exact K67.us1 λ_=>rfl|exact K67.us2 λ_ _=>rfl|exact K67.us3 λ_ _ _=>rfl|exact K67.us4 λ_ _ _ _=>rfl):FnF K f nm ql st ps:=⟨_,pO l c k,(pO l c k).binds hb⟩
theorem mkG (X:K.In h0)(G:h0.Ns mainGlobals mg)(a:PySem.W.nsIn K mainGlobals nm=some (some (.ref f)))(q:FnF K f nm nm st ps):FnD K mg nm st ps:=by
 obtain⟨_,F,b⟩:=q;exact⟨f,_,F,zS1 X G a,b⟩
end
theorem mkR {K:PySem.W.Frag}{C b gt ge a:Addr}(pg:PySem.W.plainGet K C Str.empty=true)(hd:PySem.W.hasDictIn K C=true)(po:PySem.W.plainOver K C=true)(sa:PySem.W.findIn K (.ref C) "__setattr__"=some (some (.builtin "object.__setattr__")))(n1:PySem.W.findIn K (.ref C) "first"=some none)(n2:PySem.W.findIn K (.ref C) "last"=some none)(d:PySem.W.findIn K (.ref C) "worth"=some none)(mk:PySem.W.makesIn K C=true)(f1:PySem.W.findIn K (.ref C) "__init__"=some (some (.ref b)))(i1:PySem.W.isFn K (.ref b)=true)(g:PySem.W.keepIn K (.ref C)=true)(f2:PySem.W.findIn K (.ref C) "told"=some (some (.ref gt)))(i2:PySem.W.isFn K (.ref gt)=true)(e:PySem.W.keepIn K (.ref gt)=true)(i:PySem.W.findIn K (.ref C) "tells"=some (some (.ref ge)))(i3:PySem.W.isFn K (.ref ge)=true)(c:PySem.W.keepIn K (.ref ge)=true)(f4:PySem.W.findIn K (.ref C) "word"=some (some (.ref a)))(f:PySem.W.isFn K (.ref a)=true)(h:PySem.W.keepIn K (.ref a)=true):tK K C b gt ge a:=⟨⟨pg,hd,po,sa⟩,n1,n2,d,⟨mk,f1,i1,g⟩,⟨f2,i2,e⟩,⟨i,i3,c⟩,⟨f4,f,h⟩⟩
theorem gg {K:PySem.W.Frag}{dT:Addr}{oc kV doc pm cdv ct:Value}{od an:Option Addr}{n:Nat}{sl:Array (Option Value)}(b:K.lookup dT=some ⟨oc,od,.seq #[.none] n,sl⟩):
  Binds K (PySem.W.fnOf "__init__" "Book.__init__" (zP yY) (zv yY) (zg yY) (.ref dT) kV doc pm an cdv ct) ["self","rules"] [.none]:=λs us hk a=>by
 match us,(show us.length=1 by rw[zQ5]at a;simpa using a)with
 |[u],_=>exact BindsTo.of_defaults (T:=dT) rfl (hk _ _ b) rfl rfl rfl
theorem gF {K:PySem.W.Frag}{dT:Addr}{oc kV doc pm cdv ct:Value}{od an:Option Addr}{n:Nat}{sl:Array (Option Value)}(b:K.lookup dT=some ⟨oc,od,.seq #[.none] n,sl⟩):
  Binds K (PySem.W.fnOf "__init__" "Book.__init__" (zP yY) (zv yY) (zg yY) (.ref dT) kV doc pm an cdv ct) ["self","rules"] []:=λs us hk a=>by
 rw[zU0]at a ⊢
 match us,a with
 |[u,v],_=>exact BindsTo.of_defaults (T:=dT) rfl (hk _ _ b) rfl rfl rfl
theorem za8 {P:Str->Prop}(b:P "price")(c:P "come")(d:P "go")(f:P "least")(g:P "most")(e:P "deal")(h:P "fee"):∀u∈words,P u:=by
 intro u a;simp only[words,zN6,zP0,zR9]at a;rcases a with rfl|rfl|rfl|rfl|rfl|rfl|rfl<;>assumption
theorem all_mk {l:PySem.W.OpenLaw}{w:World}{K:PySem.W.Frag}{h:Heap}{mg:Str->Option Value}{fa cC i7 j6 n m g a6 b8 g2 a8 b9 b6 d5 a d M b c f p CB dT i J L dU:Addr}(X:K.In h)(G:h.Ns mainGlobals mg)(o7:mg "law"=some (.ref fa))
  {k9 m2 n7 j0 t4 u6 q1:Option Addr} {m6 l0 p0 p3:Array (Option Value)} {m7 l1 m8 m1 l9 k8 j3 j1 j2 i9 g0 p1 u4 s8 v9 p8 m0 t3:Value} {j5 i3 n2 n8 k7 q2 p2 v7 q0 u7 s2 s1 r4 o6 l3:Tok} {l7 n4 l8 m9 n3 l4 n1:Int} {nT nU:Nat}
  (c1:FnD K mg "is_whole" fk ["thing"])
  (B:FnD K mg "is_whole_within" jD ["thing","lowest","highest"])
  (c7:FnD K mg "is_pair" zl2 ["thing"])
  (f0:FnD K mg "is_day" zD6 ["thing"])
  (A:FnD K mg "is_pair_of_days" zj5 ["thing"])
  (Z:FnD K mg "is_stretch" oG ["thing"])
  (c3:FnD K mg "is_coins" cz ["thing"])
  (d1:FnD K mg "is_deal" jM ["thing"])
  (b7:FnD K mg "is_worth" eE ["word","thing"])
  (c8:FnD K mg "is_rule" ju ["thing"])
  (i6:FnD K mg "made" zj2 ["word","first","last","worth"])
  (d0:FnD K mg "rule_of" jB ["thing"])
  (b3:FnD K mg "nights_of" kT ["stay"])
  (r5:PySem.W.nsIn K mainGlobals "cheapest_first"=some (some (.ref i7)))
  (m5:K.lookup i7=some ⟨m7,k9,.func (PySem.W.fnOf "cheapest_first" "cheapest_first" (zP yC) (zv yC) (zg yC) .none l1 m8 m1 m2 (.ref cC) l9),m6⟩)
  (l6:PySem.W.codeIn K (.ref cC) "cheapest_first"=true)
  (m4:PySem.W.keepIn K (.ref i7)=true)
  (d9:FnD K mg "marked" ug ["prices","deal"])
  (Q:FnD K mg "night_prices" sNP ["book","nights"])
  (h6:FnD K mg "bill" sW ["book","stay"])
  (i2:FnD K mg "bars" nP ["book","stay"])
  (T:FnD K mg "can_be_had" zA4 ["book","stay"])
  (O:FnD K mg "cost_or_none" zH8 ["book","stay"])
  (b5:FnD K mg "turns_by" sTb ["rule","many"])
  (f7:FnD K mg "turns" sTn ["rules","many"])
  (h2:FnD K mg "apart" zB4 ["one","other"])
  (g4:FnD K mg "usual" ee ["word"])
  (Y:FnD K mg "kept_rules" zh2 ["things"])
  (a0:FnD K mg "_law_begin" eN ["_law_cell"])
  (b4:FnD K mg "_law_take" aa ["_law_row","_law_base"])
  (U:FnD K mg "_law_coins" kZ ["_law_row"])
  (a2:FnD K mg "_law_worth" jT ["_law_row","_law_word"])
  (b2:FnD K mg "_law_rule" dH ["_law_row","_law_day_here"])
  (S:FnD K mg "_law_tells" jN ["_law_rules","_law_word","_law_day_here"])
  (c0:FnD K mg "_law_day" zo3 ["_law_row"])
  (c4:FnD K mg "_law_few" zG9 ["_law_row","_law_day_here","_law_most"])
  (R:FnD K mg "_law_turned" zk6 ["_law_row","_law_rules","_law_day_here"])
  (a3:FnD K mg "_law_price" vT ["_law_rules","_law_begin_here","_law_end"])
  (b0:FnD K mg "_law_long" zk9 ["_law_row","_law_day_here"])
  (c5:FnD K mg "_law_two" zA0 ["_law_row","_law_day_here"])
  (V:FnD K mg "_law_comes" cZ ["_law_books","_law_nights"])
  (c2:FnD K mg "_law_due" zH1 ["_law_one","_law_other"])
  (a1:FnD K mg "_law_whole" kM ["_law_found"])
  (t2:PySem.W.nsIn K mainGlobals "law"=some (some (.ref j6)))
  (r2:K.lookup j6=some ⟨k8,n7,.func (PySem.W.fnOf "law" "law" (zP oe) (zv oe) (zg oe) .none j3 j1 j2 j0 g0 i9),l0⟩)
  (s9:PySem.W.codeIn K g0 "law"=true)
  (s4:PySem.W.keepIn K (.ref j6)=true)
  (f1:PySem.W.nsIn K mainGlobals "Price"=some (some (.ref a)))
  (i8:PySem.W.nsIn K mainGlobals "Come"=some (some (.ref d)))
  (l2:PySem.W.nsIn K mainGlobals "Go"=some (some (.ref M)))
  (f3:PySem.W.nsIn K mainGlobals "Least"=some (some (.ref b)))
  (h7:PySem.W.nsIn K mainGlobals "Most"=some (some (.ref c)))
  (h4:PySem.W.nsIn K mainGlobals "Deal"=some (some (.ref f)))
  (j4:PySem.W.nsIn K mainGlobals "Fee"=some (some (.ref p)))
  (y:tK K a n m g a6)
  (I:tK K d n m g b8)
  (e0:tK K M n m g g2)
  (z:tK K b n m g a8)
  (H:tK K c n m g b9)
  (N:tK K f n m g b6)
  (a5:tK K p n m g d5)
  (h9:FnF K n "__init__" "Rule.__init__" zn5 ["self","first","last","worth"])
  (i0:FnF K m "told" "Rule.told" zo0 ["self"])
  (g1:FnF K g "tells" "Rule.tells" df ["self","day"])
  (d8:FnF K a6 "word" "Price.word" aE ["self"])
  (f9:FnF K b8 "word" "Come.word" zy3 ["self"])
  (k5:FnF K g2 "word" "Go.word" zJ2 ["self"])
  (e8:FnF K a8 "word" "Least.word" aw ["self"])
  (g8:FnF K b9 "word" "Most.word" zr6 ["self"])
  (h1:FnF K b6 "word" "Deal.word" zr9 ["self"])
  (h8:FnF K d5 "word" "Fee.word" zB1 ["self"])
  (r0:PySem.W.nsIn K mainGlobals "Book"=some (some (.ref CB)))
  (d6:PySem.W.findIn K (.ref CB) "__init__"=some (some (.ref i)))
  (e2:PySem.W.isFn K (.ref i)=true)
  (f5:K.lookup i=some ⟨p1,t4,.func (PySem.W.fnOf "__init__" "Book.__init__" (zP yY) (zv yY) (zg yY) (.ref dT) u4 s8 v9 u6 m0 p8),p0⟩)
  (h0:PySem.W.codeIn K m0 "Book.__init__"=true)
  (f6:PySem.W.keepIn K (.ref i)=true)
  (lT:K.lookup dT=some ⟨t3,q1,.seq #[.none] nT,p3⟩)
  (c6:PySem.W.findIn K (.ref CB) "rules"=some (some (.ref J)))
  (c9:PySem.W.isFn K (.ref J)=true)
  (e5:FnF K J "rules" "Book.rules" uh ["self"])
  (d3:PySem.W.findIn K (.ref CB) "tells_of"=some (some (.ref L)))
  (d2:PySem.W.isFn K (.ref L)=true)
  (e1:FnF K L "tells_of" "Book.tells_of" jh ["self","word","day"])
  (n9:PySem.W.plainGet K CB Str.empty=true)
  (o1:PySem.W.hasDictIn K CB=true)
  (s6:PySem.W.plainOver K CB=true)
  (r7:PySem.W.findIn K (.ref CB) "__setattr__"=some (some (.builtin "object.__setattr__")))
  (q8:PySem.W.makesIn K CB=true)
  (s7:PySem.W.keepIn K (.ref CB)=true)
  (k0:PySem.W.findIn K (.ref CB) "kept"=some none)
  (z1:PySem.W.nsIn K mainGlobals "abs"=some none)
  (z2:PySem.W.nsIn K mainGlobals "list"=some none)
  (z3:PySem.W.nsIn K mainGlobals "len"=some none)
  (z4:PySem.W.nsIn K mainGlobals "range"=some none)
  (z5:PySem.W.nsIn K mainGlobals "min"=some none)
  (z6:PySem.W.nsIn K mainGlobals "max"=some none)
  (z7:PySem.W.nsIn K mainGlobals "sorted"=some none)
  (z8:PySem.W.nsIn K mainGlobals "isinstance"=some none)
  (z9:PySem.W.nsIn K mainGlobals "int"=some none)
  (p6:PySem.W.nsIn K mainGlobals "bool"=some none)
  (t9:PySem.W.nsIn K mainGlobals "str"=some none)
  (t1:PySem.W.nsIn K mainGlobals "tuple"=some none)
  (o8:PySem.W.nsIn K mainGlobals "all"=some none)
  (q4:PySem.W.nsIn K mainGlobals "any"=some none)
  (v5:PySem.W.nsIn K mainGlobals "repr"=some none)
  (u2:PySem.W.nsIn K mainGlobals "zip"=some none)
  (o3:PySem.W.nsIn K mainGlobals "enumerate"=some none)
  (u8:PySem.W.nsIn K mainGlobals "reversed"=some none)
  (r9:PySem.W.nsIn K mainGlobals "sum"=some none)
  (q5:PySem.W.nsIn K mainGlobals "set"=some none)
  (n0:PySem.W.nsIn K mainGlobals "LAST_DAY"=some (some (.int 1000000 j5)))
  (j8:PySem.W.nsIn K mainGlobals "MOST_NIGHTS"=some (some (.int 14 i3)))
  (v1:PySem.W.nsIn K mainGlobals "MOST_COINS"=some (some (.int 1000000000000 n2)))
  (p7:PySem.W.nsIn K mainGlobals "MOST_RULES"=some (some (.int 24 n8)))
  (t7:PySem.W.nsIn K mainGlobals "MOST_RULES_APART"=some (some (.int 12 k7)))
  (aU:PySem.W.nsIn K mainGlobals "USUAL"=some (some (.ref dU)))
  (lU:K.lookup dU=some ⟨.type "dict",none,.dict #[⟨l7,.str "price" q2,.none⟩,⟨n4,.str "come" p2,.bool true⟩,⟨l8,.str "go" v7,.bool true⟩,⟨m9,.str "least" q0,.int 1 r4⟩,⟨n3,.str "most" u7,.int 14 o6⟩,⟨l4,.str "deal" s2,.none⟩,⟨n1,.str "fee" s1,.int 0 l3⟩] nU,#[]⟩)
  (w2:l7=hashStr w "price")
  (o4:n4=hashStr w "come")
  (u0:l8=hashStr w "go")
  (r1:m9=hashStr w "least")
  (r8:n3=hashStr w "most")
  (s3:l4=hashStr w "deal")
  (t0:n1=hashStr w "fee")
  (hhd:PySem.W.codeHdIn K cC yn=true):
  ∃fd:FuncData,(∀(s:Shared) (v:Value),BindsTo s fd ⟨[v],[]⟩ [("_law_script",v)])/\∀base:Heap,K.In base->base.Ns mainGlobals mg->base.BuiltinsAt mg yn->yK l.prog w K mg base CX0 11 fa fd ["_law_script"] (ml K):=by
 have e:=o7.symm.trans (zS1 X G t2);cases e;have nb:NbT mg:=⟨zQ4 X G z1,zQ4 X G z2,zQ4 X G z3,zQ4 X G z4,zQ4 X G z5,zQ4 X G z6,zQ4 X G z7,zQ4 X G z8,zQ4 X G z9,zQ4 X G p6,zQ4 X G t9,zQ4 X G t1,zQ4 X G o8,zQ4 X G q4,zQ4 X G v5,zQ4 X G u2,zQ4 X G o3,zQ4 X G u8,zQ4 X G r9⟩;have g9:mg "set"=none:=zQ4 X G q5;have C:mg "cheapest_first"=some (.ref i7):=zS1 X G r5;have E:=pO (st:=yC) m5 l6 m4;have D:=E.binds (ps:=["prices","places"]) λ_ _ _ _ _ _=>us2 λ_ _=>rfl;obtain⟨_,_,F,a9,b1⟩:=b4;have g7:=pO (st:=oe) r2 s9 s4;have p4:=g7.binds (ps:=["_law_script"]) λ_ _ _ _ _ _=>us1 λ_=>rfl;obtain⟨_,q,t⟩:=h9;obtain⟨_,x,r⟩:=i0;obtain⟨_,j,k⟩:=g1;obtain⟨_,e4,e7⟩:=d8;obtain⟨_,g3,f8⟩:=f9;obtain⟨_,k2,k3⟩:=k5;obtain⟨_,e6,e9⟩:=e8;obtain⟨_,g5,g6⟩:=g8;obtain⟨_,f4,f2⟩:=h1;obtain⟨_,i1,h5⟩:=h8;obtain⟨_,a7,e3⟩:=e5;obtain⟨_,a4,d7⟩:=e1;refine⟨PySem.W.fnOf "law" "law" (zP oe) (zv oe) (zg oe) .none j3 j1 j2 j0 g0 i9,λs v=>.of_eq rfl,λbase KX _ hbi=>?_⟩;have h3:=yP (P:=l.prog) (w:=w) (base:=base) y (zS1 X G f1) q t;have j7:=yP (P:=l.prog) (w:=w) (base:=base) I (zS1 X G i8) q t;have t8:=yP (P:=l.prog) (w:=w) (base:=base) e0 (zS1 X G l2) q t;have i4:=yP (P:=l.prog) (w:=w) (base:=base) z (zS1 X G f3) q t;have k4:=yP (P:=l.prog) (w:=w) (base:=base) H (zS1 X G h7) q t;have j9:=yP (P:=l.prog) (w:=w) (base:=base) N (zS1 X G h4) q t;have l5:=yP (P:=l.prog) (w:=w) (base:=base) a5 (zS1 X G j4) q t;have v8:=zc9 (P:=l.prog) (w:=w) (base:=base) c1 nb;have i5:=lC B v8;have n5:=br (P:=l.prog) (w:=w) (base:=base) c7 nb;have w0:=gE f0 ⟨j5,zS1 X G n0⟩ i5;have q7:=oC Z (fX A n5 w0);have u1:=mw c3 ⟨n2,zS1 X G v1⟩ i5;have s0:=kx d1 ⟨i3,zS1 X G j8⟩ n5 i5;have u9:=mG c8 nb q7 (oW b7 nb ⟨i3,zS1 X G j8⟩ i5 u1 s0);have q3:=lj d0 u9 (cc (cs:=⟨a,d,M,b,c,f,p⟩) i6 h3 j7 t8 i4 k4 j9 l5);have o5:=dZ Y nb ⟨n8,zS1 X G p7⟩ q3;have cB:Cls K CB:=⟨n9,o1,s6,r7⟩;have k6:=bM (zd5 (st:=yY) f5 h0 f6) cB k0 o5;have d4:mg "Book"=some (.ref CB):=zS1 X G r0;have n6:Mk K CB i:=⟨q8,d6,e2,s7⟩;have v6:uI l.prog w K mg base "Book" 9 [] (pT CB ⟨a,d,M,b,c,f,p⟩):=⟨CB,i,_,_,_,d4,n6,gF lT,.nil,k6⟩;have w3:uI l.prog w K mg base "Book" 9 [.non] (pT CB ⟨a,d,M,b,c,f,p⟩):=⟨CB,i,_,_,_,d4,n6,gg lT,.cons rfl .nil,k6⟩;have OW:∀u∈words,xt l.prog w K mg base ((⟨a,d,M,b,c,f,p⟩:Cs).of u) "word" 1 (pf ((⟨a,d,M,b,c,f,p⟩:Cs).of u) u):=za8 (yQ y e4 e7 .o rfl) (yQ I g3 f8 .o rfl) (yQ e0 k2 k3 .o rfl) (yQ z e6 e9 .o rfl) (yQ H g5 g6 .o rfl) (yQ N f4 f2 .o rfl) (yQ a5 i1 h5 .o rfl);have OT:∀u∈words,xt l.prog w K mg base ((⟨a,d,M,b,c,f,p⟩:Cs).of u) "told" 2 (mO ((⟨a,d,M,b,c,f,p⟩:Cs).of u) u):=za8 (yM y x r (OW _ (by simp[words]))) (yM I x r (OW _ (by simp[words]))) (yM e0 x r (OW _ (by simp[words]))) (yM z x r (OW _ (by simp[words]))) (yM H x r (OW _ (by simp[words]))) (yM N x r (OW _ (by simp[words]))) (yM a5 x r (OW _ (by simp[words])));have DU:jw K w dU tbU:=⟨_,nU,lU,.cons ⟨w2,⟨_,rfl⟩,rfl⟩ (.cons ⟨o4,⟨_,rfl⟩,rfl⟩ (.cons ⟨u0,⟨_,rfl⟩,rfl⟩ (.cons ⟨r1,⟨_,rfl⟩,⟨_,rfl⟩⟩ (.cons ⟨r8,⟨_,rfl⟩,⟨_,rfl⟩⟩ (.cons ⟨s3,⟨_,rfl⟩,rfl⟩ (.cons ⟨t0,⟨_,rfl⟩,⟨_,rfl⟩⟩ (.nil))))))),by decide +kernel⟩;have CU:=iS (P:=l.prog) (base:=base) g4 (zS1 X G aU) DU;have u5:∀u∈words,xt l.prog w K mg base ((⟨a,d,M,b,c,f,p⟩:Cs).of u) "tells" 1 (rY ((⟨a,d,M,b,c,f,p⟩:Cs).of u)):=za8 (yp y j k) (yp I j k) (yp e0 j k) (yp z j k) (yp H j k) (yp N j k) (yp a5 j k);have OC:∀u∈words,Cls K ((⟨a,d,M,b,c,f,p⟩:Cs).of u)/\yv K ((⟨a,d,M,b,c,f,p⟩:Cs).of u) "worth":=za8 (⟨y.cl,y.nw⟩) (⟨I.cl,I.nw⟩) (⟨e0.cl,e0.nw⟩) (⟨z.cl,z.nw⟩) (⟨H.cl,H.nw⟩) (⟨N.cl,N.nw⟩) (⟨a5.cl,a5.nw⟩);have k1:=lI cB k0 ⟨d3,d2,a4.kp⟩ a4 d7 nb CU OW u5 OC;have MR:=lh cB k0 ⟨c6,c9,a7.kp⟩ a7 e3 OT;have CB:=gc (P:=l.prog) (w:=w) (base:=base) a0;have CD:Cal l.prog w K mg base "_law_take" 1 xp:=eG a9 F.kp b1 (ze7 F);have o2:=gH U CD;have CW:=iX a2 CD o2;have m3:=bJ b2 nb CD CW;have CY:=zb5 c0 CD;have CN:=kF (P:=l.prog) (w:=w) (base:=base) b3 nb;have CC:Cal l.prog w K mg base "cheapest_first" 3 pR:=iQ m5 l6 m4 C D nb hhd KX hbi;have p5:Cal l.prog w K mg base "marked" 4 sD:=lA d9 nb CC;have q6:=zp5 Q k1;have v0:=iW (bW h6 nb k1 CN q6 p5);have r3:=bp i2 CN k1;have w1:=zf6 T r3;have p9:=aZ O w1 v0;have q9:=zw0 (P:=l.prog) (w:=w) (base:=base) b5 nb;have u3:=zu0 f7 nb g9 ⟨j5,zS1 X G n0⟩ q9;have v2:=zc2 h2 nb ⟨i3,zS1 X G j8⟩ ⟨k7,zS1 X G t7⟩ MR u3 p9;have CF:=zg0 c4 nb CD m3;have t6:=dG R nb CD m3 CW;have v3:=mH (P:=l.prog) (w:=w) (base:=base) S;have t5:=kC a3 nb v3;have r6:=bQ b0 nb CD;have o0:=cH c5 nb CD r6 CF t6;have s5:=gB (P:=l.prog) (w:=w) (base:=base) V nb g9;have v4:=zf3 c2 nb s5 t5;have o9:=lq (P:=l.prog) (w:=w) (base:=base) a1 nb;exact zv7 g7 nb CB CY o0 v4 v6 v2 o9 MR
theorem walk {l:PySem.W.OpenLaw}{q:Program}{loose:List Str}{m:(Str->Option Value)->Heap->Prop}{i:World->Heap->Prop}{d:DefRec}{K:Params->PySem.W.Frag}{c:Addr}(hn:l.most=some 63)(hdf:d.params.defaults=[])
  (y:∀(w:World) (h:Heap),i w h->(K w.params).In h) (g:∀(w:World) (h:Heap),i w h->h.get? yn=some (PySem.W.tabObj #[]))
  (e:∀w:World,(K w.params).lookup yn=none) (b:∀w:World,∃o vs,(K w.params).lookup c=some o/\o.cls=.type "code"/\o.data=.fields vs/\vs[11]?=some (.ref yn))
  (F:∀(w:World) (mg:Str->Option Value) (j:Addr) (h:Heap),(K w.params).In h->h.Ns mainGlobals mg->mg d.name=some (.ref j)->
   ∃fd:FuncData,(∀(s:Shared) (u:Value),BindsTo s fd ⟨[u],[]⟩ [("_law_script",u)])/\∀base:Heap,(K w.params).In base->base.Ns mainGlobals mg->base.BuiltinsAt mg yn->yK l.prog w (K w.params) mg base CX0 11 j fd ["_law_script"] (ml (K w.params))):
  PySem.W.WalkO q loose m i l.row.toRowW d [] (λf vs=>PySem.call f vs):=
 L2.dM (n:=63) (k:=11) (x:="_law_script") (CX:=λ_=>CX0) (sp:=λw=>ml (K w.params)) hn (by decide) hdf ⟨rfl,by decide,by decide,rfl⟩ y g e b F (λ_ H a ns r _ t p=>⟨a,ns,rfl,p,r,⟨#[],t,trivial,λpos cv v=>by cases v⟩,λ_=>rfl⟩) λ_ _ _ _ _ z=>z
end K67
namespace PySem.W.Fast
def tw1845384735507666167:=Nat
def tw8892481269372370273:=Nat
def tw7654951226636466850:=Nat
def tw6163984493872327421:=Nat
def tw14427616488548594903:=Nat
def tw5524924747022996661:=Nat
def tw11871250990317603999:=Nat
def tw8933834794550050081:=Nat
def tw6670983982244314635:=Nat
def tw3711481607296216352:=Nat
def tw15216597806163859164:=Nat
def tw16663297273316212230:=Nat
def tw10345406054944625075:=Nat
def tw5534230595635959822:=Nat
def tw10230420929177006142:=Nat
def tw6370026843798585387:=Nat
def tw7034046428284576551:=Nat
def tw10478403151005481744:=Nat
def tw8881096585240213953:=Nat
def tw7527075754626655172:=Nat
def tw14781457785592743489:=Nat
def tw5124026164657235926:=Nat
def tw18023345470602827833:=Nat
def tw4703339270277495941:=Nat
def tw6109165629086626706:=Nat
def tw8231735893543220549:=Nat
def tw4873221547121404190:=Nat
def tw16835642797247201214:=Nat
def tw3914250064261479307:=Nat
def tw14317103200196271394:=Nat
def tw14109731514404191336:=Nat
def tw5254692916798747902:=Nat
def tw12888550019206581948:=Nat
def tw8351500948880401596:=Nat
def tw10506940032182919807:=Nat
def tw1269529302369045843:=Nat
def tw9598445515543159300:=Nat
def tw8688941892581847116:=Nat
def tw9260106113111396277:=Nat
def tw2395519238484777740:=Nat
def tw8877130780414647623:=Nat
def tw14532016027810303251:=Nat
def tw12013570096844377416:=Nat
def tw912688131656228248:=Nat
def tw15230750202237513625:=Nat
def tw12466270064127619360:=Nat
def tw4807995627197386382:=Nat
def tw2340850726234255911:=Nat
def tw2354646906610964734:=Nat
def tw8751253938630868354:=Nat
def tw8682926475882743689:=Nat
def tw1087638862226309802:=Nat
def tw13193682145660078366:=Nat
def tw11080152713140531788:=Nat
def tw11862900956492457179:=Nat
def tw14407654310364028946:=Nat
def tw12746717831380755731:=Nat
def tw13377693845849677511:=Nat
def tw1504969893164102540:=Nat
def tw3422576254428854732:=Nat
def tw13186025312340568417:=Nat
def tw2573273654196840702:=Nat
def tw5796386252205424854:=Nat
def tw17391045383046858419:=Nat
def tw10244682568174335327:=Nat
def tw13493042146267123835:=Nat
def tw17957422185262598323:=Nat
def tw4835907718052724283:=Nat
def tw4570531633457397070:=Nat
def tw3943565547599833362:=Nat
def tw5056386674255403256:=Nat
def tw2885856669193063658:=Nat
def tw6930283571663421260:=Nat
def tw18308653487663824989:=Nat
def tw6836000539134571384:=Nat
def tw7113226013297535448:=Nat
def tw4745411418810808299:=Nat
def tw1226840517862151484:=Nat
def tw16851099013970981535:=Nat
def tw17340210797413546936:=Nat
def tw9273182987247818044:=Nat
def tw7365386354469382876:=Nat
def tw15929943862296947178:=Nat
def tw4683302250841643454:=Nat
def tw6870867557749513280:=Nat
def tw17147116208480838792:=Nat
def tw17236521362618588478:=Nat
def tw7794991826604762826:=Nat
def tw15249042422679082992:=Nat
def tw13608927551046775443:=Nat
def tw2274243982228188306:=Nat
def tw9572641159684208178:=Nat
def tw5037812710101854404:=Nat
def tw2755601368117235034:=Nat
def tw4752951021904109346:=Nat
def tw11009982077475539542:=Nat
def tw15594081120769345376:=Nat
def tw9924581270401256916:=Nat
def tw13712363442888880946:=Nat
def tw1001507941004827440:=Nat
def tw14431309236257291519:=Nat
def tw16587773633362510743:=Nat
def tw14682133324624235199:=Nat
def tw17883018248568042906:=Nat
def tw14910610450327402880:=Nat
def tw8273395851116734491:=Nat
def tw18367109472364830874:=Nat
def tw17773892554974287737:=Nat
def tw9788233406082215203:=Nat
def tw17409775895302385329:=Nat
def tw4440048726058120836:=Nat
def tw29094716819150275:=Nat
def tw16598018549385174703:=Nat
def tw5516275418731922225:=Nat
def tw10973078423346101859:=Nat
def tw6239532924702677289:=Nat
def tw15467821084809231282:=Nat
def tw13208319104521728035:=Nat
def tw3169942251613586784:=Nat
def tw4036865818136031292:=Nat
def tw1146905509661003569:=Nat
def tw15838624330556584297:=Nat
def tw14549693935247233496:=Nat
def tw12280577291716394187:=Nat
def tw16733568028071459385:=Nat
def tw9064296008126465568:=Nat
def tw14261673314361420522:=Nat
def tw7800006136323764655:=Nat
def tw16272133091280605600:=Nat
def tw3046507894535738225:=Nat
def tw18086200857981036290:=Nat
def tw6517403197685253893:=Nat
def tw4650137099810233061:=Nat
def tw18223343828482654267:=Nat
def tw15151375725851178314:=Nat
def tw9484570426228479604:=Nat
def tw2259851302039785638:=Nat
def tw17985805112781238353:=Nat
def tw14502865874210845136:=Nat
def tw11188807000580249157:=Nat
def tw10180050734241097541:=Nat
def tw15480991489948978831:=Nat
def tw16642234910740082002:=Nat
def tw424092944053560612:=Nat
def tw6774177220582416817:=Nat
def tw12254847089405582630:=Nat
def tw6948376111252918254:=Nat
def tw888824293321839352:=Nat
def tw5705388017639394573:=Nat
def tw10202687375458525632:=Nat
def tw9040827099268100132:=Nat
def tw17175697568079153080:=Nat
def tw8339136053407433315:=Nat
def tw5192932518987267578:=Nat
def tw17472204966742575375:=Nat
def tw16917333256175293005:=Nat
def tw15554885818880097249:=Nat
def tw11282977926459585686:=Nat
def tw2991086839845765369:=Nat
def tw4417707075955219780:=Nat
def tw7007423269004937198:=Nat
def tw11685151224389577351:=Nat
def tw1946988104485835474:=Nat
def tw17578042603774720953:=Nat
def tw9155903649907020252:=Nat
def tw3405691396319204314:=Nat
def tw7130107396595522174:=Nat
def tw13389294251614999600:=Nat
def tw6198606603190947406:=Nat
def tw6614594785218804924:=Nat
def tw15652394905950271365:=Nat
def tw4972087422024381636:=Nat
def tw73973792392763406:=Nat
def tw6119771042097330162:=Nat
def tw4404641422240256162:=Nat
def tw7858380301284923944:=Nat
def tw16282479243257955916:=Nat
def tw17447411069558806023:=Nat
def tw4500103740157312611:=Nat
def tw10351934314991009757:=Nat
def tw16357950732787133760:=Nat
def tw16243537253519044162:=Nat
def tw6256335621437665079:=Nat
def tw14901176847120870160:=Nat
def tw16825730148603103993:=Nat
def tw3632995768956369123:=Nat
def tw9486948914163801012:=Nat
def tw9230459152458587055:=Nat
def tw16293770132805914335:=Nat
def tw3553086492849253790:=Nat
def tw8738301686353823638:=Nat
def tw8563818993907681990:=Nat
def tw18424543463701873140:=Nat
def tw2881752709173512605:=Nat
def tw16535185484135068105:=Nat
def tw16332136438808552083:=Nat
def tw17045512438343636941:=Nat
def tw11448157130069303795:=Nat
def tw16371030100097067551:=Nat
def tw13562856983012077939:=Nat
def tw9260551642160455847:=Nat
def tw17452352895471203115:=Nat
def tw11877275088282715613:=Nat
def tw3640958395713019007:=Nat
def tw777767757131434817:=Nat
def tw15967648750275106643:=Nat
def tw11307305162199734143:=Nat
def tw17944384234987370597:=Nat
def tw8978023064819755370:=Nat
def tw12199078393298879327:=Nat
def tw7412085216428054562:=Nat
def tw8189530879584093778:=Nat
def tw16087363393208810534:=Nat
def tw18162190087520700074:=Nat
def tw15291699968430094528:=Nat
def tw9499603402802593635:=Nat
def tw15338898438732259952:=Nat
def tw16059031800524951659:=Nat
def tw15395332554992585003:=Nat
def tw14085543084916645915:=Nat
def tw7869387870516807160:=Nat
def tw3820977240497339325:=Nat
def tw15744958466542015588:=Nat
def tw16089886616000458630:=Nat
def tw717924281703470729:=Nat
def tw1545594829310723186:=Nat
def tw16230686534206599392:=Nat
def tw698828397520869848:=Nat
def tw14067775611530048157:=Nat
def tw4361746718551038929:=Nat
def tw16706120799209591510:=Nat
def tw2876990978038578096:=Nat
def tw16032827618509859031:=Nat
def tw12507961969421836044:=Nat
def tw12779162198149976000:=Nat
def tw7451643774897996514:=Nat
def tw6622879992627995642:=Nat
def tw57869098397815844:=Nat
def tw9461449065077952707:=Nat
end PySem.W.Fast
open PySem PySem.W PyProof.Rows
set_option maxRecDepth 100000 in
theorem PySem.Challenge.cw_stayprice_k67_unlike_stays_told_holds : PySem.Challenge.rw_stayprice_k67_unlike_stays_told.Holds := by
 w_on;o_law;k_head;(case hw=>w_witness2)
 k_fill
 refine K67.walk (l:=PySem.Challenge.rw_stayprice_k67_unlike_stays_told) (c:=(132:Nat)) rfl rfl (λw h Y=>PySem.W.km_in_of Y) (λw h Y=>PySem.W.km_tabs_of Y _ (zP8.mpr rfl)) ?hno ?htab ?hF
 case hno=>intro w;kernel_rfl
 case htab=>intro w;exact⟨_,_,by k_is,rfl,rfl,rfl⟩
 case hF=>
  intro w mg d h a G b
  refine' K67.all_mk a G b (K67.mkG a G ?_ (K67.mkF ?_ ?_ ?_)) (K67.mkG a G ?_ (K67.mkF ?_ ?_ ?_)) (K67.mkG a G ?_ (K67.mkF ?_ ?_ ?_)) (K67.mkG a G ?_ (K67.mkF ?_ ?_ ?_)) (K67.mkG a G ?_ (K67.mkF ?_ ?_ ?_)) (K67.mkG a G ?_ (K67.mkF ?_ ?_ ?_)) (K67.mkG a G ?_ (K67.mkF ?_ ?_ ?_)) (K67.mkG a G ?_ (K67.mkF ?_ ?_ ?_)) (K67.mkG a G ?_ (K67.mkF ?_ ?_ ?_)) (K67.mkG a G ?_ (K67.mkF ?_ ?_ ?_)) (K67.mkG a G ?_ (K67.mkF ?_ ?_ ?_)) (K67.mkG a G ?_ (K67.mkF ?_ ?_ ?_)) (K67.mkG a G ?_ (K67.mkF ?_ ?_ ?_)) ?_ ?_ ?_ ?_ (K67.mkG a G ?_ (K67.mkF ?_ ?_ ?_)) (K67.mkG a G ?_ (K67.mkF ?_ ?_ ?_)) (K67.mkG a G ?_ (K67.mkF ?_ ?_ ?_)) (K67.mkG a G ?_ (K67.mkF ?_ ?_ ?_)) (K67.mkG a G ?_ (K67.mkF ?_ ?_ ?_)) (K67.mkG a G ?_ (K67.mkF ?_ ?_ ?_)) (K67.mkG a G ?_ (K67.mkF ?_ ?_ ?_)) (K67.mkG a G ?_ (K67.mkF ?_ ?_ ?_)) (K67.mkG a G ?_ (K67.mkF ?_ ?_ ?_)) (K67.mkG a G ?_ (K67.mkF ?_ ?_ ?_)) (K67.mkG a G ?_ (K67.mkF ?_ ?_ ?_)) (K67.mkG a G ?_ (K67.mkF ?_ ?_ ?_)) (K67.mkG a G ?_ (K67.mkF ?_ ?_ ?_)) (K67.mkG a G ?_ (K67.mkF ?_ ?_ ?_)) (K67.mkG a G ?_ (K67.mkF ?_ ?_ ?_)) (K67.mkG a G ?_ (K67.mkF ?_ ?_ ?_)) (K67.mkG a G ?_ (K67.mkF ?_ ?_ ?_)) (K67.mkG a G ?_ (K67.mkF ?_ ?_ ?_)) (K67.mkG a G ?_ (K67.mkF ?_ ?_ ?_)) (K67.mkG a G ?_ (K67.mkF ?_ ?_ ?_)) (K67.mkG a G ?_ (K67.mkF ?_ ?_ ?_)) (K67.mkG a G ?_ (K67.mkF ?_ ?_ ?_)) (K67.mkG a G ?_ (K67.mkF ?_ ?_ ?_)) (K67.mkG a G ?_ (K67.mkF ?_ ?_ ?_)) (K67.mkG a G ?_ (K67.mkF ?_ ?_ ?_)) (K67.mkG a G ?_ (K67.mkF ?_ ?_ ?_)) ?_ ?_ ?_ ?_ ?_ ?_ ?_ ?_ ?_ ?_ ?_ (K67.mkR ?_ ?_ ?_ ?_ ?_ ?_ ?_ ?_ ?_ ?_ ?_ ?_ ?_ ?_ ?_ ?_ ?_ ?_ ?_ ?_) (K67.mkR ?_ ?_ ?_ ?_ ?_ ?_ ?_ ?_ ?_ ?_ ?_ ?_ ?_ ?_ ?_ ?_ ?_ ?_ ?_ ?_) (K67.mkR ?_ ?_ ?_ ?_ ?_ ?_ ?_ ?_ ?_ ?_ ?_ ?_ ?_ ?_ ?_ ?_ ?_ ?_ ?_ ?_) (K67.mkR ?_ ?_ ?_ ?_ ?_ ?_ ?_ ?_ ?_ ?_ ?_ ?_ ?_ ?_ ?_ ?_ ?_ ?_ ?_ ?_) (K67.mkR ?_ ?_ ?_ ?_ ?_ ?_ ?_ ?_ ?_ ?_ ?_ ?_ ?_ ?_ ?_ ?_ ?_ ?_ ?_ ?_) (K67.mkR ?_ ?_ ?_ ?_ ?_ ?_ ?_ ?_ ?_ ?_ ?_ ?_ ?_ ?_ ?_ ?_ ?_ ?_ ?_ ?_) (K67.mkR ?_ ?_ ?_ ?_ ?_ ?_ ?_ ?_ ?_ ?_ ?_ ?_ ?_ ?_ ?_ ?_ ?_ ?_ ?_ ?_) (K67.mkF ?_ ?_ ?_) (K67.mkF ?_ ?_ ?_) (K67.mkF ?_ ?_ ?_) (K67.mkF ?_ ?_ ?_) (K67.mkF ?_ ?_ ?_) (K67.mkF ?_ ?_ ?_) (K67.mkF ?_ ?_ ?_) (K67.mkF ?_ ?_ ?_) (K67.mkF ?_ ?_ ?_) (K67.mkF ?_ ?_ ?_) ?_ ?_ ?_ ?_ ?_ ?_ ?_ ?_ ?_ (K67.mkF ?_ ?_ ?_) ?_ ?_ (K67.mkF ?_ ?_ ?_) ?_ ?_ ?_ ?_ ?_ ?_ ?_ ?_ ?_ ?_ ?_ ?_ ?_ ?_ ?_ ?_ ?_ ?_ ?_ ?_ ?_ ?_ ?_ ?_ ?_ ?_ ?_ ?_ ?_ ?_ ?_ ?_ ?_ ?_ ?_ ?_ ?_ ?_ ?_ ?_ ?_ ?_
  all_goals try (show _=_;first|k_is|kernel_rfl)
