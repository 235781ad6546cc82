import PyProof.Rows.All
import Wide.All
import OpenK.AllK
import Wide.FinOn
import Lean
import PyProof.EqAt
import PyProof.EqKinds
import PyProof.TupleCall
import PyProof.AttrMissHeap
import PyProof.DictRoadsH
import KE.KDictOf
import PyProof.P3In
import PySem.Challenge.RW_stayprice_k74_whole_tidied_books_are_ali
set_option maxHeartbeats 0
set_option linter.all false
set_option Elab.async false
def zI3:=@PySem.wpAny_bind
def zI4:=@PySem.Heap.get?_push_of_some
def zI5:=@List.length_map
def zI6:=@PySem.wpAny_pure
def zI7:=@List.getElem?_eq_getElem
def zI8:=@List.getElem?_eq_some_iff
def zI9:=@Nat.lt_of_lt_of_le
def zJ0:=@Nat.le_refl
def zJ1:=@List.mem_cons
def zJ2:=@List.mem_cons_of_mem
def zJ3:=@PyProof.Rows.wpS_bind
def zJ4:=@PySem.Heap.get?_push_size
def zJ5:=@PySem.Heap.lt_size
def zJ6:=@List.mem_cons_self
def zJ7:=@List.getD_eq_getElem?_getD
def zJ8:=@Nat.zero_le
def zJ9:=@PyProof.Rows.wpS_pure
def zK0:=@List.getElem?_map
def zK1:=@Nat.le_trans
def zK2:=@Nat.ne_of_lt
def zK3:=@List.mem_singleton
def zK4:=@List.mem_append_right
def zK5:=@List.not_mem_nil
def zK6:=@List.mem_append
def zK7:=@List.size_toArray
def zK8:=@List.append_assoc
def zK9:=@Nat.lt_of_le_of_lt
def zL0:=@Nat.le_add_right
def zL1:=@List.mem_append_left
def zL2:=@decide_eq_false
def zL3:=@Bool.false_ne_true
def zL4:=@List.length_append
def zL5:=@Option.map_eq_some_iff
def zL6:=@List.take_append_drop
def zL7:=@Nat.le_of_eq
def zL8:=@List.mem_of_getElem?
def zL9:=@PySem.W.mg_none_of
def zM0:=@List.length_cons
def zM1:=@decide_eq_true
def zM2:=@Array.toList_append
def zM3:=@List.pairwise_append
def zM4:=@List.drop_eq_getElem_cons
def zM5:=@Nat.add_lt_add_left
def zM6:=@getElem?_pos
def zM7:=@Option.some.inj
def zM8:=@PySem.wpAny_ite_split
def zM9:=@List.map_cons
def zN0:=@PySem.W.mg_of
def zN1:=@or_false
def zN2:=@Nat.lt_or_ge
def zN3:=@Bool.and_eq_true
def zN4:=@Ne.symm
def zN5:=@PySem.Heap.get?_update_other
def zN6:=@Nat.le_of_lt
def zN7:=@PySem.wpAny_holding
def zN8:=@List.Perm.append_left
def zN9:=@PySem.wpAny_mono
def zO0:=@List.lookup_cons
def zO1:=@List.append_nil
def zO2:=@Nat.lt_irrefl
def zO3:=@Nat.lt_succ_self
def zO4:=@List.take_length
def zO5:=@List.getElem?_set_ne
def zO6:=@List.getElem?_append_left
def zO7:=@PySem.sizeLine_eq
def zO8:=@List.find?_cons
def zO9:=@List.length_take
def zP0:=@PySem.wpAny_call_entry
def zP1:=@PyProof.Rows.wpS_forRange
def zP2:=@PySem.mem_of_lookup
def zP3:=@PyProof.Rows.callWith_type1
def zP4:=@Nat.lt_succ_of_lt
def zP5:=@List.length_set
def zP6:=@PySem.wpAny_setField_rec
def zP7:=@Array.length_toList
def zP8:=@PySem.Heap.size_push
def zP9:=@Nat.le_of_ble_eq_true
def zQ0:=@PySem.W.kia_one
def zQ1:=@Nat.lt_add_of_pos_right
def zQ2:=@List.getElem?_replicate
def zQ3:=@PySem.wpAny_callSpecial?_slot
def zQ4:=@List.mem_of_mem_drop
def zQ5:=@List.getElem?_append_right
def zQ6:=@PySem.wpAny_truthy_bool
def zQ7:=@Int.toNat_natCast
def zQ8:=@List.take_add_one
def zQ9:=@PySem.Heap.SameBut.update
def zR0:=@List.pairwise_iff_getElem
def zR1:=@PyProof.Rows.get?_update_seq
def zR2:=@Array.getElem?_eq_getElem
def zR3:=@PySem.F.slot_zip_next
def zR4:=@List.perm_append_comm
def zR5:=@Bool.false_eq_true
def zR6:=@List.drop_length
def zR7:=@PySem.wpAny_rule
def zR8:=@PySem.wpAny_seqItems
def zR9:=@PySem.Around.under_plainId
def zS0:=@List.mem_of_mem_take
def zS1:=@decide_eq_false_iff_not
def zS2:=@PySem.wpAny_newObj_type
def zS3:=@decide_eq_true_eq
def zS4:=@Nat.le_of_lt_succ
def zS5:=@Nat.le_antisymm
def zS6:=@Array.Perm.refl
def zS7:=@List.getElem?_set_self
def zS8:=@PySem.wpAny_nextOf_list_item
def zS9:=@Int.le_refl
def zT0:=@Nat.le_of_not_lt
def zT1:=@List.getElem_mem
def zT2:=@List.mem_reverse
def zT3:=@List.getElem?_eq_none
def zT4:=@PySem.F.plain_extend_loop
def zT5:=@Nat.le_succ
def zT6:=@Nat.ne_of_gt
def zT7:=@PySem.codeAny_builtin
def zT8:=@PyProof.Rows.wpS_mono
def zT9:=@Bool.and_eq_true_iff
def zU0:=@List.take_sublist
def zU1:=@List.drop_sublist
def zU2:=@PySem.wpAny_setState_of
def zU3:=@Array.toList_push
def zU4:=@PySem.wpAny_attempt
def zU5:=@List.reverse_append
def zU6:=@PySem.wpAny_askSetting
def zU7:=@PySem.wpAny_field
def zU8:=@List.Perm.append_right
def zU9:=@Int.le_trans
def zV0:=@PySem.Heap.get?_update_self
def zV1:=@List.nil_append
def zV2:=@PySem.wpAny_updateSeq
def zV3:=@Array.getElem?_toList
def zV4:=@List.map_append
def zV5:=@PyProof.Rows.listUpdate_at
def zV6:=@PySem.Heap.get?_push_ne
def zV7:=@List.mem_iff_getElem
def zV8:=@List.extract_eq_take_drop
def zV9:=@PyProof.Rows.wpS_modify
def zW0:=@Array.toList_reverse
def zW1:=@Bool.false_and
def zW2:=@Int.le_of_lt
def zW3:=@List.length_drop
def zW4:=@List.filter_cons
def zW5:=@PySem.F.called_set
def zW6:=@beq_eq_false_iff_ne
def zW7:=@PySem.wpAny_setEntries_of
def zW8:=@List.length_eq_zero_iff
def zW9:=@PySem.plainId_quiet
def zX0:=@List.mem_filter
def zX1:=@PySem.wpAny_Call_Name_kw
def zX2:=@Bool.or_eq_true
def zX3:=@Nat.div_add_mod
def zX4:=@PySem.wpAny_of_eq
def zX5:=@PySem.wpAny_pyIter_list
def zX6:=@of_decide_eq_true
def zX7:=@PySem.codeAny_mono
def zX8:=@PySem.wpAny_newTuple
def zX9:=@List.mem_map
def zY0:=@PySem.builtinLookup_eq_fast
def zY1:=@beq_iff_eq
def zY2:=@if_false
def zY3:=@List.all_eq_true
def zY4:=@PySem.Heap.size_update
def zY5:=@Array.toList_extract
def zY6:=@List.any_cons
def zY7:=@Array.perm_iff_toList_perm
def zY8:=@PySem.wpAny_newList
def zY9:=@if_true
def zZ0:=@List.filterMap_cons
def zZ1:=@List.length_reverse
def zZ2:=@List.getElem_of_mem
def zZ3:=@PySem.wpAny_passesOwn
def zZ4:=@List.nodup_cons
def zZ5:=@Classical.byContradiction
def zZ6:=@Nat.not_lt_zero
def zZ7:=@PySem.PassesOwn.never
def zZ8:=@Nat.min_eq_left
def zZ9:=@Nat.lt_trans
def z00:=@Nat.succ_pos
def z01:=@Int.emod_lt_of_pos
def z02:=@List.find?_eq_none
def z03:=@of_decide_eq_false
def z04:=@List.getElem?_cons_succ
def z05:=@Int.eq_ofNat_of_zero_le
def z06:=@PySem.F.args_zip_next_1
def z07:=@List.pairwise_singleton
def z08:=@PySem.fits_of_scanBound
def z09:=@PySem.F.entry_zip_next
def z21:=@List.drop_of_length_le
def z22:=@PySem.strLen_append
def z23:=@PySem.wpAny_isInstance
def z24:=@PySem.W.methodCall_KW
def z25:=@List.length_filter_le
def z26:=@Bool.eq_iff_iff
def z27:=@Int.not_le
def z28:=@List.forIn_cons
def z29:=@PySem.wpAny_specialOf
def z30:=@Nat.mul_comm
def z31:=@PySem.typeLookup_type
def z32:=@Int.emod_nonneg
def z33:=@PySem.W.plainGet_of
def z34:=@List.mem_range
def z35:=@List.take_take
def z36:=@PySem.W.callWith_K
def z37:=@Int.natCast_nonneg
def z38:=@Int.lt_of_lt_of_le
def z39:=@List.forIn_toArray
def z40:=@List.all_cons
section
variable {a b c d e f g A B C D E F G H I J K L:Nat}{p q r s t u v w P Q R S T U V W:Int}
theorem om0 (h:a<b):b-(a+1)<b-a:=by lia
theorem om5 (h:0=a-b)(i:b<=a):b=a:=by lia
theorem om6 (h:a+1=b-c):c<b:=by omega
theorem om7 (h:a+b=c-d):a=c-(d+b):=by omega
theorem om9 (h:(a:Int)<(b:Int)):a<b:=by omega
theorem zE5 (h:a+64<b):a+1<b:=(zZ9 (zM5 (by decide) a) h)
theorem zG1 (h:a<=1000):((min b a:Nat):Int)<=1000:=by lia
theorem jX (h:a<64):a<=16777216:=(zN6 (zZ9 h (by decide:(64:Nat)<(16777216:Nat))))
theorem zH4 (h:p<=q)(i:r<=s):p+r<=s+q:=by lia
theorem zH0 (h:a+64<b)(i:c<=60):a+1+min d c<b:=by lia
theorem zy0 (h:a<=b)(i:c<=b):max a c<=b:=by lia
theorem zc4 (h:a<=7):a+1<=8:=(zK9 h (by decide:(7:Nat)<(8:Nat)))
theorem zd3 (h:a+b<=c)(i:d<=e+b)(j:e<=a):d<=c:=by lia
theorem zC1 (h:a+1+1<2):False:=by lia
theorem zd5 (h:2<=a)(i:a=b):0<b:=(zI9 (by decide:(0:Nat)<(2:Nat)) (zK1 h (zL7 i)))
theorem ku (h:a+(b+c)<=d):a+c+b<=d:=by lia
theorem dE (h:a<b+1)(i:¬a=b):a<b:=by lia
theorem zy1 :a+(b+c)=a+c+b:=by lia
theorem zz6 (h:p<=q):p+(((q-p).toNat:Nat):Int)=q:=by omega
theorem zf0 (h:(a:Int)=(b:Int)):b=a:=by lia
theorem zx5 (h:a-b=0)(i:b<=a):b=a:=by omega
theorem zz7 (h:a-b=c+1):b<a:=by omega
theorem zy7 (h:a-b=c+d):a-(b+d)=c:=by omega
theorem oo (h:a<b):b-1<b:=by lia
theorem zC7 (h:a<=b):(a:Int)-(b:Int)<=0:=by lia
theorem zB9 (h:a=16777216)(i:b<=a):¬(b:Int)≥2^63:=by lia
theorem zw4 (h:a=16777216)(i:b<=a):b<=1099511627776:=(zN6 (zK9 i (zK9 (zL7 h) (by decide:(16777216:Nat)<(1099511627776:Nat)))))
theorem fq (h:a=16777216)(i:b=c)(j:b<=a):(c:Int)<2^63:=by lia
theorem zj7 (h:a+3*(b+c)+d<e):a+c+3*b+d<e:=by lia
theorem ze4 (h:a+16*(b+c)+200<d):a+c+16*b+200<d:=by lia
theorem zD5 (h:a=b)(i:b<=c):a+(c-a)=c:=by lia
theorem cO (h:a<2^63)(i:p<(b:Int))(j:b<=a):p<2^63:=by lia
theorem de (h:(-(a:Int))<=p)(i:a<=b)(j:b<2^63):(-(2^63))<=p:=by lia
theorem zj9 (h:p<0):max 0 (min (p+q) q)=(((p+q).toNat:Nat):Int):=by lia
theorem zc8 :max 0 (min p (a:Int))=((min p.toNat a:Nat):Int):=by lia
theorem zk0 (h:a<2^63)(i:b=c)(j:b<=a):(c:Int)<2^63:=by lia
theorem zj6 (h:a+b<=c)(i:a=d)(j:b=e):d+e<=c:=by lia
theorem zi7 (h:a<=b)(i:¬a=b):a<=b-1:=by lia
theorem zj5 (h:a<1)(i:b<=a):b=0:=by lia
theorem ze7 (h:a<1):a=0:=by lia
theorem kT (h:a<=b+c+d):a<=b+(d+c):=by lia
theorem zh1 (h:a<b):b<=b-c+b-1-a+c:=by omega
theorem zi6 (h:a<b)(i:c<=a):c+b-1-a<b:=by omega
theorem zg6 (h:a-b<=c):a<=c+b:=by lia
theorem ze9 :¬(a<=b/\b<b):=by lia
theorem rX (h:a+1<=b+(0+1))(i:b<a+1):b=a:=by omega
theorem zg8 (h:a+b<=c+(d+b)):a<=c+d:=by lia
theorem zd0 :a<=a-b+(c+b):=by omega
theorem zd9 (h:a<b):0+b-1-c<b:=by omega
theorem gf (h:a<=b+(c-b))(i:b<=c):a<=c:=by omega
theorem zi3 (h:a<b):a<=b-1:=by omega
theorem zd6 (h:a>1):a-1<a:=by lia
theorem lJ (h:a<b)(i:b<=c)(j:d<=1+(b-1)):d<=c:=by lia
theorem zf9 (h:a<b+1)(i:c<a):a-1<b:=by lia
theorem zz1 (h:a<=1000):a<=16777216:=(zN6 (zK9 h (by decide:(1000:Nat)<(16777216:Nat))))
theorem gD :a<a+5\/a+5<a:=(.inl (zQ1 (by decide)))
theorem zc5 :a+4<a\/a<a+4:=(.inr (zQ1 (by decide)))
theorem dG :a+4<a+5\/a+5<a+4:=(.inl (zM5 (by decide) a))
theorem cq :a+1<a+5\/a+5<a+1:=(.inl (zM5 (by decide) a))
theorem dX :a+1<a+4\/a+4<a+1:=(.inl (zM5 (by decide) a))
theorem zd8 :a+4<a+1\/a+1<a+4:=(.inr (zM5 (by decide) a))
theorem dS :a+2<a+5\/a+5<a+2:=(.inl (zM5 (by decide) a))
theorem zd1 :a+2<a\/a<a+2:=(.inr (zQ1 (by decide)))
theorem cI :a+2<a+4\/a+4<a+2:=(.inl (zM5 (by decide) a))
theorem zj1 :a+2<a+1\/a+1<a+2:=(.inr (zM5 (by decide) a))
theorem zh7 :a+4<a+2\/a+2<a+4:=(.inr (zM5 (by decide) a))
theorem dN :a+5<a+4\/a+4<a+5:=(.inr (zM5 (by decide) a))
theorem zj4 :a+5<a+2\/a+2<a+5:=(.inr (zM5 (by decide) a))
theorem zg9 :a+5<a+1\/a+1<a+5:=(.inr (zM5 (by decide) a))
theorem zg0 :a+5<a\/a<a+5:=(.inr (zQ1 (by decide)))
theorem fQ :a<a+4\/a+4<a:=(.inl (zQ1 (by decide)))
theorem zj2 :a<a+2\/a+2<a:=(.inl (zQ1 (by decide)))
theorem zc9 :a+1<a+2\/a+2<a+1:=(.inl (zM5 (by decide) a))
theorem cM :a+3<a+5\/a+5<a+3:=(.inl (zM5 (by decide) a))
theorem zf8 :a+3<a\/a<a+3:=(.inr (zQ1 (by decide)))
theorem ze0 :a+3<a+1\/a+1<a+3:=(.inr (zM5 (by decide) a))
theorem zh0 :a+3<a+2\/a+2<a+3:=(.inr (zM5 (by decide) a))
theorem zf7 (h:(-(2^62))<=p):(-(2^63))<=p:=by lia
theorem zi9 (h:p<2^62):p<2^63:=by lia
end
set_option maxRecDepth 100000
namespace L2
open PySem PySem.Spec PyProof.Rows
abbrev Key :=Sum Int Str
def rY :Key->Value->Bool
 |.inl k,v=>Value.isInt k v
 |.inr x,v=>Value.isStrOf x v
def zE6 (w:World):Key->Int
 |.inl k=>hashInt k
 |.inr x=>hashStr w x
theorem zR :∀{k:Key}{v:Value},rY k v=true->(∃i t,k=Sum.inl i/\v=Value.int i t)\/(∃x t,k=Sum.inr x/\v=Value.str x t)
 |.inl i,v,h=>by
  obtain⟨t,e⟩:=Value.isInt_shape (k:=i) (v:=v) h;exact .inl ⟨i,t,rfl,e⟩
 |.inr x,v,h=>by
  obtain⟨t,e⟩:=Value.isStrOf_shape (x:=x) (v:=v) h;exact .inr ⟨x,t,rfl,e⟩
theorem jz (i:Int)(t:Tok):rY (.inl i) (.int i t)=true:=by simp[rY,Value.isInt]
theorem jG (x:Str)(t:Tok):rY (.inr x) (.str x t)=true:=by simp[rY,Value.isStrOf]
theorem zk5 (a b:Int):decide ((Sum.inl a:Key)=Sum.inl b)=(a == b):=by
 by_cases e:a=b
 ·subst e;simp
 ·have h:¬(Sum.inl a:Key)=Sum.inl b:=λq=>e (Sum.inl.inj q);rw[zL2 h];exact(zW6.mpr e).symm
theorem zk8 (a b:Str):decide ((Sum.inr a:Key)=Sum.inr b)=decide (a=b):=by
 by_cases e:a=b
 ·subst e;simp
 ·have h:¬(Sum.inr a:Key)=Sum.inr b:=λq=>e (Sum.inr.inj q);rw[zL2 h,zL2 e]
theorem zp0 (a:Int)(b:Str):decide ((Sum.inl a:Key)=Sum.inr b)=false:=zL2 (λq=>nomatch q)
theorem zr3 (a:Str)(b:Int):decide ((Sum.inr a:Key)=Sum.inl b)=false:=zL2 (λq=>nomatch q)
def yA (prog:Program)(w:World):PySem.KeyKind prog w Key where
 is:=rY
 hash:=zE6 w
 inj:=λv a b ha hb=>by
  rcases zR ha with⟨i,t,rfl,rfl⟩|⟨x,t,rfl,rfl⟩
  ·rcases zR hb with⟨j,u,rfl,e⟩|⟨y,u,rfl,e⟩
   ·injection e with e1 _;rw[e1]
   ·exact nomatch e
  ·rcases zR hb with⟨j,u,rfl,e⟩|⟨y,u,rfl,e⟩
   ·exact nomatch e
   ·injection e with e1 _;rw[e1]
 byValue:=λk v h=>by
  rcases zR h with⟨i,t,rfl,rfl⟩|⟨x,t,rfl,rfl⟩<;>rfl
 pyHash:=λc h=>by
  rcases zR c with⟨i,t,rfl,rfl⟩|⟨x,t,rfl,rfl⟩
  ·exact wpAny_pyHash_int h
  ·exact wpAny_pyHash_str h
 eqBool:=λd c h=>by
  rcases zR d with⟨i,t,rfl,rfl⟩|⟨x,t,rfl,rfl⟩
  ·rcases zR c with⟨j,u,rfl,rfl⟩|⟨y,u,rfl,rfl⟩
   ·rw[zk5]at h;exact wpAny_eqBool_int h
   ·rw[zp0]at h;exact SeqAt.EqAt.int_str i t y u _ _ _ _ h
  ·rcases zR c with⟨j,u,rfl,rfl⟩|⟨y,u,rfl,rfl⟩
   ·rw[zr3]at h;exact SeqAt.EqAt.str_int x t j u _ _ _ _ h
   ·rw[zk8]at h;exact wpAny_eqBool_str h
 «strs»:=λk x t v h=>by
  rcases zR h with⟨i,u,rfl,e⟩|⟨y,u,rfl,e⟩
  ·exact nomatch e
  ·injection e with e1 _;subst e1;cases v<;>rfl
theorem pE (prog:Program)(w:World)(i:Int)(t:Tok):(yA prog w).is (.inl i) (.int i t)=true:=jz i t
theorem oS (prog:Program)(w:World)(x:Str)(t:Tok):(yA prog w).is (.inr x) (.str x t)=true:=jG x t
inductive V where
 |non|bl (b:Bool)|int (i:Int)|str (x:Str)|byt (b:Array UInt8)|flt (b:UInt64)|ref (a:Addr)|ty (n:String)
 deriving DecidableEq
def RelV :V->Value->Prop
 |.non,u=>u=Value.none
 |.bl b,u=>u=Value.bool b
 |.int i,u=>∃t,u=Value.int i t
 |.str x,u=>∃t,u=Value.str x t
 |.byt b,u=>∃t,u=Value.bytes b t
 |.flt b,u=>∃t,u=Value.float b t
 |.ref a,u=>u=Value.ref a
 |.ty n,u=>u=Value.type n
abbrev Vals :List V->List Value->Prop:=Paired RelV
theorem Vals.length {xs:List V}{us:List Value}(r:Vals xs us):xs.length=us.length:=Paired.length r
theorem Vals.get :∀{xs:List V}{us:List Value}{i:Nat}{x:V},Vals xs us->xs[i]?=some x->∃u,us[i]?=some u/\RelV x u
 |_,_,_,_,.nil,e=>by simp at e
 |_,_,0,_,.cons r _,e=>by simp at e;subst e;exact⟨_,rfl,r⟩
 |_,_,i+1,x,.cons _ t,e=>by
  obtain⟨u,a,b⟩:=Vals.get (i:=i) (x:=x) t (by simpa using e);exact⟨u,by simpa using a,b⟩
theorem Vals.set {x:V}{u:Value}(r:RelV x u):∀{xs:List V}{us:List Value} (i:Nat),Vals xs us->Vals (xs.set i x) (us.set i u)
 |_,_,_,.nil=>.nil
 |_,_,0,.cons _ t=>.cons r t
 |_,_,i+1,.cons q t=>.cons q (Vals.set r i t)
theorem Vals.append {xs ys:List V}{us ws:List Value}(h:Vals xs us)(s:Vals ys ws):Vals (xs++ys) (us++ws):=by
 induction h with
 |nil=>exact s
 |cons r _ a=>exact .cons r a
theorem Vals.take :∀{xs:List V}{us:List Value} (n:Nat),Vals xs us->Vals (xs.take n) (us.take n)
 |_,_,0,_=>.nil
 |_,_,_+1,.nil=>.nil
 |_,_,n+1,.cons r t=>.cons r (Vals.take n t)
theorem Vals.drop :∀{xs:List V}{us:List Value} (n:Nat),Vals xs us->Vals (xs.drop n) (us.drop n)
 |_,_,0,r=>r
 |_,_,_+1,.nil=>.nil
 |_,_,n+1,.cons _ t=>Vals.drop n t
def wW :Option V->Option Value->Prop
 |some v,some u=>RelV v u
 |none,none=>True
 |_,_=>False
def KV {a:Type}:List (a×V)->List (a×Value)->Prop:=Paired λ(p:a×V) (q:a×Value)=>p.1=q.1/\RelV p.2 q.2
def kV :Key->V
 |.inl i=>.int i
 |.inr x=>.str x
inductive HO where
  |lst (xs:List V)
  |tup (xs:List V)
  |dK (kvs:List (Key×V))|dT (kvs:List (List Key×V))
  |set (S:Int->Bool) (n:Nat)
  |ins (C dx:Addr) (fs:List (Str×V))
  |own (x:Addr)
  |xd (fs:List (Str×V))
  |met (f x:Addr)
  |rng (lo hi:Int)
  |frz (o:Obj) (u:HO)
  |tbl (ps:Array Value)
  |ext (φ:Heap->Prop)
abbrev Hp :=Addr->Option HO
def upd (H:Hp)(a:Addr)(o:HO):Hp:=λb=>if b=a then some o else H b
theorem zk {H:Hp}{a:Addr}{o:HO}:upd H a o a=some o:=by unfold upd;rw[if_pos rfl]
theorem zh {H:Hp}{a b:Addr}{o:HO}(h:b≠a):upd H a o b=H b:=by unfold upd;rw[if_neg h]
theorem qQ {H:Hp}{a:Addr}{o u:HO}:upd (upd H a o) a u=upd H a u:=by funext b;unfold upd;split<;>rfl
theorem zl {H:Hp}{a b:Addr}{o:HO}(h:H a=some o)(h':H b=none):a≠b:=by intro e;subst e;rw[h]at h';cases h'
section
variable (P:Program)(w:World)
def zS (H:Hp)(h:Heap)(a:Addr):HO->Prop
 |.lst xs=>xs.length<=sizeLine/\∃(its:List Value) (n:Nat),Vals xs its/\h.get? a=some {cls:=.type "list",data:=.seq its.toArray n}
 |.tup xs=>xs.length<=sizeLine/\∃its:List Value,Vals xs its/\IsTup h a its.toArray
 |.dK kvs=>kvs.length<=sizeLine/\(a == sysModules)=false/\∃vs,KV kvs vs/\h.DictOf (yA P w) a vs
 |.dT kvs=>kvs.length<=sizeLine/\(a == sysModules)=false/\∃xs:List (List Key×Addr×Value),
   Paired (λ(p:List Key×V) (q:List Key×Addr×Value)=>p.1=q.1/\H q.2.1=some (.tup (p.1.map kV))/\RelV p.2 q.2.2) kvs xs/\
   ∃o es ep,h.get? a=some o/\o.ExactDict/\o.data=.dict es ep/\es.toList=xs.map (entryOfKey (tupleKind (yA P w)))/\(xs.map (·.1)).Nodup
 |.set S n=>h.SetOf (intKind P w) a S n
 |.ins C dx fs=>H dx=some (.own a)/\fs.length<=1000/\dx≠a/\h.get? a=some (PySem.W.instObj C dx)/\
   ∃mA,h.Ns1 dx mA/\(∀f,wW (fs.lookup f) (mA f))/\PySem.Within mA (fs.map (·.1))
 |.own _=>∃o,h.get? a=some o
 |.xd fs=>∃mA,h.Ns1 a mA/\∀f,wW (fs.lookup f) (mA f)
 |.rng lo hi=>∃t u v,h.get? a=some {cls:=.type "range",data:=.fields #[.int lo t,.int hi u,.int 1 v]}
 |.frz o u=>h.get? a=some o/\zS H h a u
 |.tbl ps=>h.get? a=some {cls:=.none,data:=.fields ps}
 |.met f x=>h.get? a=some (PySem.W.methodObj (.ref f) (.ref x))
 |.ext φ=>φ h/\(∃o,h.get? a=some o)/\∀c b:Heap,φ c->(∀o,c.get? a=some o->b.get? a=some o)->φ b
def HOk (H:Hp)(h:Heap):Prop:=∀a o,H a=some o->zS P w H h a o
end
section
variable {P:Program}{w:World}{H H':Hp}{h h':Heap}{a:Addr}{o:HO}
theorem zS.lt (x:zS P w H h a o):a<h.objs.size:=by
 cases o with
 |lst xs=>obtain⟨_,_,_,_,e⟩:=x;exact zJ5 e
 |tup xs=>obtain⟨_,_,_,p⟩:=x;exact p.lt
 |dK kvs=>obtain⟨_,_,_,_,o,_,_,e,_⟩:=x;exact zJ5 e
 |dT kvs=>obtain⟨_,_,_,_,o,_,_,e,_⟩:=x;exact zJ5 e
 |set S n=>obtain⟨o,_,_,_,e,_⟩:=x;exact zJ5 e
 |ins C dx fs=>obtain⟨_,_,_,e,_⟩:=x;exact zJ5 e
 |own y=>obtain⟨_,e⟩:=x;exact zJ5 e
 |xd fs=>obtain⟨_,⟨_,_,_,e,_⟩,_⟩:=x;exact zJ5 e
 |rng lo hi=>obtain⟨_,_,_,e⟩:=x;exact zJ5 e
 |frz ob u=>obtain⟨e,_⟩:=x;exact zJ5 e
 |tbl ps=>exact zJ5 (show h.get? a=some _ from x)
 |met f y=>exact zJ5 (show h.get? a=some _ from x)
 |ext φ=>obtain⟨_,⟨_,e⟩,_⟩:=x;exact zJ5 e
theorem Paired.mapP {α β:Type}{F G:α->β->Prop}{c:List α}{d:List β}(h:Paired F c d)(f:∀a b,F a b->G a b):Paired G c d:=by
 induction h with
 |nil=>exact .nil
 |cons r _ e=>exact .cons (f _ _ r) e
theorem zS.stay (x:zS P w H h a o)(k:∀b u,(b=a\/H b=some (.own a))->h.get? b=some u->h'.get? b=some u)
  (g:∀b,H b=some (.own a)->H' b=some (.own a)) (l:∀b xs,H b=some (.tup xs)->H' b=some (.tup xs)):zS P w H' h' a o:=by
 induction o with
 |lst xs=>obtain⟨z,its,n,r,e⟩:=x;exact⟨z,its,n,r,k _ _ (.inl rfl) e⟩
 |tup xs=>obtain⟨z,its,r,ob,e,c⟩:=x;exact⟨z,its,r,ob,k _ _ (.inl rfl) e,c⟩
 |dK kvs=>obtain⟨z,y,vs,r,ob,es,ep,e,c⟩:=x;exact⟨z,y,vs,r,ob,es,ep,k _ _ (.inl rfl) e,c⟩
 |dT kvs=>
  obtain⟨z,y,xs,r,ob,es,ep,e,c⟩:=x;exact⟨z,y,xs,Paired.mapP r λp q z=>⟨z.1,l _ _ z.2.1,z.2.2⟩,ob,es,ep,k _ _ (.inl rfl) e,c⟩
 |set S n=>obtain⟨ob,es,ep,t,e,c⟩:=x;exact⟨ob,es,ep,t,k _ _ (.inl rfl) e,c⟩
 |ins C dx fs=>
  obtain⟨d,z,ne,e,mA,⟨od,es,ep,i,c⟩,r⟩:=x;exact⟨g _ d,z,ne,k _ _ (.inl rfl) e,mA,⟨od,es,ep,k _ _ (.inr d) i,c⟩,r⟩
 |own y=>obtain⟨ob,e⟩:=x;exact⟨ob,k _ _ (.inl rfl) e⟩
 |xd fs=>obtain⟨mA,⟨od,es,ep,e,c⟩,r⟩:=x;exact⟨mA,⟨od,es,ep,k _ _ (.inl rfl) e,c⟩,r⟩
 |rng lo hi=>obtain⟨t,u,v,e⟩:=x;exact⟨t,u,v,k _ _ (.inl rfl) e⟩
 |frz ob u j=>obtain⟨e,q⟩:=x;exact⟨k _ _ (.inl rfl) e,j q⟩
 |tbl ps=>
  have e:h.get? a=some {cls:=.none,data:=.fields ps}:=x;show h'.get? a=some {cls:=.none,data:=.fields ps};exact k a _ (.inl rfl) e
 |met f y=>
  have e:h.get? a=some (PySem.W.methodObj (.ref f) (.ref y)):=x;show h'.get? a=some (PySem.W.methodObj (.ref f) (.ref y));exact k a _ (.inl rfl) e
 |ext φ=>obtain⟨p,⟨o,e⟩,st⟩:=x;exact⟨st _ _ p λo q=>k _ _ (.inl rfl) q,⟨o,k _ _ (.inl rfl) e⟩,st⟩
theorem HOk.lt (x:HOk P w H h)(e:H a=some o):a<h.objs.size:=(x a o e).lt
theorem HOk.fresh (x:HOk P w H h)(e:h.objs.size<=a):H a=none:=by
 cases q:H a with
 |none=>rfl
 |some u=>exact absurd (zI9 (x.lt q) e) (zO2 _)
theorem HOk.kept (x:HOk P w H h)(k:∀b u,h.get? b=some u->h'.get? b=some u):HOk P w H h':=λa o e=>
 (x a o e).stay (λb u _ q=>k b u q) (λ_ q=>q) λ_ _ q=>q
theorem HOk.laid (x:HOk P w H h)(k:∀b u,h.get? b=some u->h'.get? b=some u)(d:h.objs.size<=a)(new:zS P w (upd H a o) h' a o):HOk P w (upd H a o) h':=λb u e=>by
 have hn:=x.fresh d;by_cases hb:b=a
 ·subst hb;rw[zk]at e;cases e;exact new
 ·rw[zh hb]at e;exact(x b u e).stay (λc v _ q=>k c v q) (λc q=>by rw[zh (zl q hn)];exact q) λc xs q=>by rw[zh (zl q hn)];exact q
end
def Rd (H:Hp)(a:Addr)(u:HO):Prop:=H a=some u\/∃o,H a=some (.frz o u)
theorem Rd.ok {P:Program}{w:World}{H:Hp}{h:Heap}{a:Addr}{u:HO}(r:Rd H a u)(x:HOk P w H h):zS P w H h a u:=by
 rcases r with r|⟨o,r⟩
 ·exact x a u r
 ·obtain⟨_,q⟩:=x a _ r;exact q
def Mut :Option HO->Prop
 |some (.lst _)=>True
 |some (.dK _)=>True
 |some (.dT _)=>True
 |some (.set _ _)=>True
 |some (.ins _ _ _)=>True
 |some (.ext _)=>True
 |_=>False
section
variable {P:Program}{w:World}{H:Hp}{h h':Heap}{x e:Addr}{o':HO}
theorem HOk.write (ok:HOk P w H h)(i:Mut (H x))(he:e=x\/H e=some (.own x))(k:∀b u,b≠e->h.get? b=some u->h'.get? b=some u)(j:∃u,h'.get? e=some u)
  (new:zS P w (upd H x o') h' x o'):HOk P w (upd H x o') h':=λb u q=>by
 have d:∀c y,H c=some (.own y)->c≠x:=λc y r z=>by subst z;rw[r]at i;exact i
 have f:∀c xs,H c=some (.tup xs)->c≠x:=λc xs r z=>by subst z;rw[r]at i;exact i
 by_cases hb:b=x
 ·subst hb;rw[zk]at q;cases q;exact new
 ·rw[zh hb]at q;by_cases a:b=e
  ·have l:H b=some (.own x):=by
    rcases he with z|z
    ·exact absurd (a.trans z) hb
    ·rw[a];exact z
   rw[q]at l;cases l;obtain⟨v,m⟩:=j;exact⟨v,by rw[a];exact m⟩
  ·refine(ok b u q).stay (λc v g r=>k c v ?_ r) (λc r=>by rw[zh (d c b r)];exact r) λc xs r=>by rw[zh (f c xs r)];exact r
   rcases g with rfl|g
   ·exact a
   ·rintro rfl;rcases he with z|z
    ·exact d c b g z
    ·rw[g]at z;cases z;exact hb rfl
end
structure Un (fs ex:List Addr)(H H':Hp)(h h':Heap):Prop where
 keep:∀b o,h.get? b=some o->H b=none->b∉fs->b∉ex->h'.get? b=some o
 slot:∀b o,h.get? b=some o->H b=none->b∈fs->b∉ex->∃sl,h'.get? b=some {o with slots:=sl}
 free:∀b o,h.get? b=some o->H b=none->b∉ex->H' b=none
 there:∀b o,h.get? b=some o->b∉ex->∃o',h'.get? b=some o'
 tups:∀b xs,H b=some (.tup xs)->H' b=some (.tup xs)
 frzs:∀b o u,H b=some (.frz o u)->H' b=some (.frz o u)
 tbls:∀b ps,H b=some (.tbl ps)->∃more,H' b=some (.tbl (ps++more))
section
variable {fs fs' ex ex':List Addr}{H H1 H2:Hp}{h h1 h2 h':Heap}{a x e:Addr}{o:HO}
theorem Un.any (u:Un fs ex H H1 h h1){b:Addr}{ob:Obj}(q:h.get? b=some ob)(n:H b=none)(c:b∉ex):∃sl,h1.get? b=some {ob with slots:=sl}:=by
 by_cases hb:b∈fs
 ·exact u.slot b ob q n hb c
 ·exact⟨ob.slots,u.keep b ob q n hb c⟩
theorem Un.kept (k:∀b u,h.get? b=some u->h'.get? b=some u):Un fs ex H H h h':=
 ⟨λb ob q _ _ _=>k b ob q,λb ob q _ _ _=>⟨ob.slots,k b ob q⟩,λ_ _ _ n _=>n,λb ob q _=>⟨ob,k b ob q⟩,λ_ _ q=>q,λ_ _ _ q=>q,λ_ ps q=>⟨#[],by rw[q];simp⟩⟩
theorem Un.refl :Un fs ex H H h h:=Un.kept λ_ _ q=>q
theorem Un.laid (k:∀b u,h.get? b=some u->h'.get? b=some u)(c:h.objs.size<=a)(hn:H a=none):Un fs ex H (upd H a o) h h' where
 keep:=λb u q _ _ _=>k b u q
 slot:=λb u q _ _ _=>⟨u.slots,k b u q⟩
 free:=λb u q n _=>by rw[zh (zK2 (zI9 (zJ5 q) c))];exact n
 there:=λb u q _=>⟨u,k b u q⟩
 tups:=λb xs q=>by rw[zh (zl q hn)];exact q
 frzs:=λb u xs q=>by rw[zh (zl q hn)];exact q
 tbls:=λb ps q=>⟨#[],by rw[zh (zl q hn),q];simp⟩
theorem Un.write (d:Mut (H x))(he:e=x\/H e=some (.own x))(k:∀b u,b≠e->h.get? b=some u->h'.get? b=some u)(f:∃u,h'.get? e=some u):Un fs ex H (upd H x o) h h':=by
 have g:∀b,H b=none->b≠x:=λb n z=>by subst z;rw[n]at d;exact d
 have hb:∀b,H b=none->b≠e:=λb n z=>by
  subst z;rcases he with r|r
  ·exact g b n r
  ·rw[n]at r;cases r
 have hm:∀b u,H b=some u->¬Mut (some u)->b≠x:=λb u q nm z=>by subst z;rw[q]at d;exact nm d
 refine⟨λb u q n _ _=>k b u (hb b n) q,λb u q n _ _=>⟨u.slots,k b u (hb b n) q⟩,λb u q n _=>by rw[zh (g b n)];exact n,λb u q _=>?_,
  λb xs q=>by rw[zh (hm b _ q λz=>z)];exact q,λb u xs q=>by rw[zh (hm b _ q λz=>z)];exact q,λb ps q=>⟨#[],by rw[zh (hm b _ q λz=>z),q];simp⟩⟩
 by_cases c:b=e
 ·subst c;exact f
 ·exact⟨u,k b u c q⟩
end
def trk (h:Heap)(H:Hp):List Addr:=(List.range h.objs.size).filter λa=>(H a).isSome
def rk (h:Heap)(H:Hp):Heap:=PySem.W.hideAll h (trk h H)
theorem jH (h:Heap)(H:Hp):(rk h H).objs.size=h.objs.size:=PySem.W.hideAll_size _ _
theorem ef {h:Heap}{H:Hp}{b:Addr}{o:Obj}(e:h.get? b=some o)(n:H b=none):(rk h H).get? b=some o:=
 PySem.W.hideAll_get _ e λhm=>by
  have q:(H b).isSome=true:=(zX0.mp hm).2;rw[n]at q;simp at q
theorem zb7 {h:Heap}{H:Hp}{b:Addr}{o:Obj}(e:(rk h H).get? b=some o):h.get? b=some o/\H b=none:=by
 have a:h.get? b=some o:=PySem.W.of_hideAll (trk h H) e;refine⟨a,?_⟩;cases q:H b with
 |none=>rfl
 |some x=>
  have hm:b∈trk h H:=zX0.mpr ⟨z34.mpr (zJ5 a),by simp[q]⟩;have z:(rk h H).get? b=none:=PySem.W.hideAll_none (trk h H) hm;rw[z]at e;cases e
structure Mod (K:PySem.W.Frag)(mg:Str->Option Value)(base:Heap):Prop where
 kin:K.In base
 glob:base.Ns mainGlobals mg
 blt:∃mb,base.Ns builtinsNs mb/\∀x:Str,x≠"__name__"->mb x=bootBuiltins x
 nolimit:base.NoLimit
structure Cx where
 prog:Program
 w:World
 K:PySem.W.Frag
 mg:Str->Option Value
 base:Heap
 A:Around
 N:List Str
 s₀:Shared
 H₀:Hp
 env:Env
 outer:List Env
 stack:List Env
 ex:List Addr
 fn:Str->Bool
 calm:Bool
 pn:List (Addr×Obj)
 xe:Value->Shared->Prop
def frs (l:List Env):List Addr:=l.filterMap (·.frame)
abbrev Cx.fs (X:Cx):List Addr:=frs X.outer
def Vis (sc:Scope)(x:Str):Prop:=sc.names.lookup x=some .local\/sc.names.lookup x=some .cell\/sc.names.lookup x=some .free
def Loc (sc:Scope)(x:Str):Prop:=sc.names.lookup x=some .local\/sc.names.lookup x=some .cell
def Look (env:Env)(h:Heap)(m:Str->Option Value)(x:Str)(u:Value):Prop:=
 (env.kindOf x=some .local/\m x=some u)\/((env.kindOf x=some .cell\/env.kindOf x=some .free)/\∃c,env.cells.lookup x=some c/\h.IsCell c (some u))
structure Cx.Ok (X:Cx):Prop where
 mod:Mod X.K X.mg X.base
 kind:X.env.scope.kind=.function
 glob:X.env.globals=mainGlobals
 blt:X.env.builtins=builtinsNs
 above:X.s₀.heap.objs.size<=X.env.locals
 inj:∀x y c,X.env.cells.lookup x=some c->X.env.cells.lookup y=some c->x=y
 has:∀x,(X.env.kindOf x=some .cell\/X.env.kindOf x=some .free)->∃c,X.env.cells.lookup x=some c
 cab:∀x c,X.fn x=true->X.env.cells.lookup x=some c->X.s₀.heap.objs.size<=c
 hd:X.calm=true->X.A.handled=none
 frames:X.A.frames=some X.stack
 stk:X.stack=X.outer\/(X.stack=X.env::X.outer/\X.env.frame=some X.env.locals)
 exf:∀b∈X.ex,b≠X.env.locals/\∀x c,X.env.cells.lookup x=some c->c≠b
 bs:∀b o,X.base.get? b=some o->X.s₀.heap.get? b=some o/\X.H₀ b=none
 bsz:X.base.objs.size<=X.s₀.heap.objs.size
 noex:∀b o,X.base.get? b=some o->b∉X.ex
 exfs:∀b∈X.ex,b∉X.fs
 funs:X.s₀.heap.FunFrames X.base X.outer
 frf:∀b∈X.fs,X.H₀ b=none
structure Inv (X:Cx)(pins:List (Addr×Obj))(σ:List (Option V))(H:Hp)(s:Shared):Prop where
 ok:X.Ok
 os:s.os=X.s₀.os
 bare:AllBare s.gens
 base:Un X.fs X.ex X.H₀ H X.s₀.heap s.heap
 loc:∃m,s.heap.Ns X.env.locals m/\∀(i:Nat) (x:Str) (v:V),X.N[i]?=some x->σ[i]?=some (some v)->Vis X.env.scope x->∃u,RelV v u/\Look X.env s.heap m x u
 cell:∀x c,X.env.cells.lookup x=some c->∃v,s.heap.IsCell c v
 free:H X.env.locals=none
 freeC:∀x c,X.env.cells.lookup x=some c->H c=none
 pin:∀p∈X.pn++pins,s.heap.get? p.1=some p.2/\H p.1=none/\p.1≠X.env.locals/\p.1∉X.fs/\∀v,p.2.data≠.cell v
 hok:HOk X.prog X.w H s.heap
 len:σ.length=X.N.length
section
variable {X:Cx}{pins:List (Addr×Obj)}{σ:List (Option V)}{H H':Hp}{s:Shared}{h':Heap}
theorem Cx.Ok.nofr (ok:X.Ok){b:Addr}{o:Obj}(e:X.base.get? b=some o):b∉X.fs:=λhb=>by
 have:=(ok.funs.mem hb).1;rw[e]at this;cases this
theorem Inv.bs (I:Inv X pins σ H s):∀b o,X.base.get? b=some o->s.heap.get? b=some o/\H b=none:=λb o e=>
 ⟨I.base.keep b o (I.ok.bs b o e).1 (I.ok.bs b o e).2 (I.ok.nofr e) (I.ok.noex b o e),I.base.free b o (I.ok.bs b o e).1 (I.ok.bs b o e).2 (I.ok.noex b o e)⟩
theorem Inv.bk (I:Inv X pins σ H s):∀b o,X.base.get? b=some o->s.heap.get? b=some o:=λb o e=>(I.bs b o e).1
theorem Inv.mod (I:Inv X pins σ H s):Mod X.K X.mg X.base:=I.ok.mod
theorem Inv.kIn (I:Inv X pins σ H s):X.K.In s.heap:=I.ok.mod.kin.keeps I.bk
theorem Inv.lt (I:Inv X pins σ H s):X.env.locals<s.heap.objs.size:=let⟨_,hn,_⟩:=I.loc;hn.lt
theorem Inv.sz (I:Inv X pins σ H s):X.s₀.heap.objs.size<=s.heap.objs.size:=zK1 I.ok.above (zN6 I.lt)
theorem Inv.nofs (I:Inv X pins σ H s){a:Addr}(h:s.heap.objs.size<=a):a∉X.fs:=λhb=>by
 obtain⟨_,o,b,_⟩:=I.ok.funs.mem hb;exact absurd (zI9 (zJ5 b) (zK1 I.sz h)) (zO2 _)
theorem Inv.cne (I:Inv X pins σ H s):∀x c,X.env.cells.lookup x=some c->c≠X.env.locals:=λx c e z=>by
 obtain⟨v,o,d,hd⟩:=I.cell x c e;obtain⟨m,⟨o',es,ep,a,b,_⟩,_⟩:=I.loc;rw[z,a]at d;cases d;rw[b]at hd;cases hd
theorem Inv.funs (I:Inv X pins σ H s):s.heap.FunFrames X.base X.outer:=by
 have all:∀(l:List Env),(∀b∈frs l,b∈X.fs)->X.s₀.heap.FunFrames X.base l->s.heap.FunFrames X.base l:=by
  intro l
  induction l with
  |nil=>intro _ _;trivial
  |cons env r g=>
   intro c d;obtain⟨hk,⟨L,o,hf,hn,f,hd⟩,hr⟩:=d;have a:L∈X.fs:=c L (by unfold frs;rw[zZ0,hf];exact zJ6);obtain⟨sl,e⟩:=I.base.slot L o f (I.ok.frf L a) a λz=>I.ok.exfs L z a;exact⟨hk,⟨L,_,hf,hn,e,hd⟩,g (λb hb=>c b (by unfold frs;rw[zZ0,hf];exact zJ2 _ hb)) hr⟩
 exact all X.outer (λ_ hb=>hb) I.ok.funs
theorem Inv.stack (I:Inv X pins σ H s):s.heap.FunFrames X.base X.stack:=by
 rcases I.ok.stk with e|⟨e,hf⟩
 ·rw[e];exact I.funs
 ·rw[e];obtain⟨m,hn,_⟩:=I.loc;refine .cons (by rw[I.ok.kind];decide) hf hn ?_ I.funs;exact Heap.get?_none_of_le (zK1 I.ok.bsz I.ok.above)
theorem Inv.stkSub (I:Inv X pins σ H s):∀b∈frs X.stack,b∈X.env.locals::X.fs:=λb hb=>by
 rcases I.ok.stk with e|⟨e,hf⟩
 ·rw[e]at hb;exact zJ2 _ hb
 ·rw[e]at hb;unfold frs at hb;rw[zZ0,hf]at hb;exact hb
theorem Inv.stkFree (I:Inv X pins σ H s):∀b∈frs X.stack,H b=none:=λb hb=>by
 rcases zJ1.mp (I.stkSub b hb)with e|hb
 ·rw[e];exact I.free
 ·obtain⟨_,o,a,_⟩:=I.ok.funs.mem hb;exact I.base.free b o a (I.ok.frf b hb) λz=>I.ok.exfs b z hb
theorem Inv.step {g':Array GenState}{t':Nat}{d':Drawn}{ch:List Addr}(I:Inv X pins σ H s)
  (g:∀b∈ch,(b∈X.ex\/X.s₀.heap.objs.size<=b)/\b≠X.env.locals/\(∀x c,X.env.cells.lookup x=some c->c≠b)/\∀p∈X.pn++pins,p.1≠b)
  (keep:∀b o,b≠X.env.locals->b∉X.fs->b∉ch->s.heap.get? b=some o->H b=none->h'.get? b=some o)
  (slot:∀b o,b≠X.env.locals->b∈X.fs->b∉ch->s.heap.get? b=some o->H b=none->∃sl,h'.get? b=some {o with slots:=sl}) (free:∀b o,b∉ch->s.heap.get? b=some o->H b=none->H' b=none)
  (there:∀b o,b∉ch->s.heap.get? b=some o->∃o',h'.get? b=some o')
  (tups:∀b xs,H b=some (.tup xs)->H' b=some (.tup xs)) (frzs:∀b o u,H b=some (.frz o u)->H' b=some (.frz o u)) (tbls:∀b ps,H b=some (.tbl ps)->∃more,H' b=some (.tbl (ps++more)))
  (ns:∀m,s.heap.Ns X.env.locals m->h'.Ns X.env.locals m) (hok:HOk X.prog X.w H' h') (hg:AllBare g'):
  Inv X pins σ H' {s with heap:=h',gens:=g',drawn:=d',toks:=t'}:=by
 have y:∀b o,X.s₀.heap.get? b=some o->b≠X.env.locals:=λb o e=>zK2 (zI9 (zJ5 e) I.ok.above);have h:∀b o,X.s₀.heap.get? b=some o->b∉X.ex->b∉ch:=λb o e a hb=>by
  rcases(g b hb).1 with z|z
  ·exact a z
  ·exact absurd (zI9 (zJ5 e) z) (zO2 _)
 have cellK:∀x c,X.env.cells.lookup x=some c->∀v,s.heap.IsCell c v->h'.IsCell c v:=λx c e v A=>by
  obtain⟨o,j,hd⟩:=A;have f:c∉ch:=λz=>(g c z).2.2.1 x c e rfl;by_cases C:c∈X.fs
  ·obtain⟨sl,q⟩:=slot c o (I.cne x c e) C f j (I.freeC x c e);exact⟨_,q,hd⟩
  ·exact⟨o,keep c o (I.cne x c e) C f j (I.freeC x c e),hd⟩
 refine⟨I.ok,I.os,hg,⟨λb o e n hb a=>?_,λb o e n hb a=>?_,λb o e n a=>?_,λb o e a=>?_,λb xs e=>tups b xs (I.base.tups b xs e),λb o xs e=>frzs b o xs (I.base.frzs b o xs e),λb ps e=>?_⟩,?_,λx c e=>?_,?_,λx c e=>?_,λp D=>?_,hok,I.len⟩
 ·exact keep b o (y b o e) hb (h b o e a) (I.base.keep b o e n hb a) (I.base.free b o e n a)
 ·obtain⟨sl,e1⟩:=I.base.slot b o e n hb a;obtain⟨B,t⟩:=slot b _ (y b o e) hb (h b o e a) e1 (I.base.free b o e n a);exact⟨B,t⟩
 ·obtain⟨o',e1⟩:=I.base.there b o e a;exact free b o' (h b o e a) e1 (I.base.free b o e n a)
 ·obtain⟨o',e1⟩:=I.base.there b o e a;exact there b o' (h b o e a) e1
 ·obtain⟨m1,e1⟩:=I.base.tbls b ps e;obtain⟨m2,t⟩:=tbls b _ e1;exact⟨m1++m2,by rw[t,Array.append_assoc]⟩
 ·obtain⟨m,hn,F⟩:=I.loc;refine⟨m,ns m hn,λi x v e1 t E=>?_⟩;obtain⟨u,r,l⟩:=F i x v e1 t E;refine⟨u,r,?_⟩;rcases l with l|⟨k,c,e,z⟩
  ·exact .inl l
  ·exact .inr ⟨k,c,e,cellK x c e _ z⟩
 ·obtain⟨v,z⟩:=I.cell x c e;exact⟨v,cellK x c e v z⟩
 ·obtain⟨m,⟨o,_,_,j,_⟩,_⟩:=I.loc;exact free _ o (λz=>(g _ z).2.1 rfl) j I.free
 ·obtain⟨v,o,j,hd⟩:=I.cell x c e;exact free c o (λz=>(g c z).2.2.1 x c e rfl) j (I.freeC x c e)
 ·obtain⟨e,n,ne,nf,d⟩:=I.pin p D;have f:p.1∉ch:=λz=>(g p.1 z).2.2.2 p D rfl;exact⟨keep p.1 p.2 ne nf f e n,free p.1 p.2 f e n,ne,nf,d⟩
theorem Inv.un {t':Nat}(I:Inv X pins σ H s)(u:Un X.fs [] H H' s.heap h')(hok:HOk X.prog X.w H' h'):Inv X pins σ H' {s with heap:=h',toks:=t'}:=by
 obtain⟨m,⟨o,es,ep,d,r⟩,_⟩:=id I.loc;obtain⟨sl,g⟩:=u.any d I.free (by simp);exact I.step (g':=s.gens) (d':=s.drawn) (ch:=[]) (λ_ z=>nomatch z) (λb o _ hb _ e n=>u.keep b o e n hb (by simp)) (λb o _ hb _ e n=>u.slot b o e n hb (by simp)) (λb o _ e n=>u.free b o e n (by simp)) (λb o _ e=>u.there b o e (by simp)) u.tups u.frzs u.tbls (λh hm=>by
  obtain⟨o',es',c,a,f⟩:=hm;rw[d]at a;cases a;exact⟨_,es',c,g,f⟩) hok I.bare
theorem Inv.call {g':Array GenState}{t':Nat}{d':Drawn}{ch:List Addr}(I:Inv X pins σ H s)(u:Un (frs X.stack) ch H H' s.heap h')(hok:HOk X.prog X.w H' h')(hg:AllBare g')
  (d:∀b∈ch,(b∈X.ex\/X.s₀.heap.objs.size<=b)/\b≠X.env.locals/\(∀x c,X.env.cells.lookup x=some c->c≠b)/\∀p∈X.pn++pins,p.1≠b):
  Inv X pins σ H' {s with heap:=h',gens:=g',drawn:=d',toks:=t'}:=by
 obtain⟨m,⟨o,es,ep,i,r⟩,_⟩:=id I.loc;obtain⟨sl,h⟩:=u.any i I.free λz=>(d _ z).2.1 rfl;exact I.step (ch:=ch) d (λb o h hb a e n=>u.keep b o e n (λz=>(zJ1.mp (I.stkSub b z)).elim h hb) a) (λb o _ _ a e n=>u.any e n a) (λb o a e n=>u.free b o e n a) (λb o a e=>u.there b o e a) u.tups u.frzs u.tbls (λk hm=>by
  obtain⟨o',es',g,f,j⟩:=hm;rw[i]at f;cases f;exact⟨_,es',g,h,j⟩) hok hg
theorem Inv.turned {t':Nat}{it:Addr}(I:Inv X pins σ H s)(k:∀b o,b≠it->s.heap.get? b=some o->h'.get? b=some o)(hn:H it=none)(f:it≠X.env.locals)
  (h:it∈X.ex\/X.s₀.heap.objs.size<=it) (i:∀x c,X.env.cells.lookup x=some c->c≠it) (j:∀p∈X.pn++pins,p.1≠it):Inv X pins σ H {s with heap:=h',toks:=t'}:=by
 have d:∀b u,H b=some u->b≠it:=λb u e z=>by rw[z,hn]at e;cases e
 refine I.step (g':=s.gens) (d':=s.drawn) (ch:=[it]) (λb hb=>?_) (λb o _ _ a e _=>k b o (λz=>a (by simp[z])) e) (λb o _ _ a e _=>⟨o.slots,k b o (λz=>a (by simp[z])) e⟩) (λ_ _ _ _ n=>n)
  (λb o a e=>⟨o,k b o (λz=>a (by simp[z])) e⟩) (λ_ _ e=>e) (λ_ _ _ e=>e) (λb ps e=>⟨#[],by rw[e];simp⟩) (λm hm=>?_) (λb u e=>?_) I.bare
 ·have e:b=it:=by simpa using hb
  subst e;exact⟨h,f,i,j⟩
 ·obtain⟨o,es,ep,g,r⟩:=hm;exact⟨o,es,ep,k _ o (zN4 f) g,r⟩
 ·refine(I.hok b u e).stay (λc v a q=>k c v ?_ q) (λ_ q=>q) λ_ _ q=>q;rcases a with z|z
  ·rw[z];exact d b u e
  ·exact d c _ z
theorem Inv.tok (I:Inv X pins σ H s)(t:Nat):Inv X pins σ H {s with toks:=t}:=I.un (h':=s.heap) (t':=t) Un.refl I.hok
theorem Inv.kept {t':Nat}(I:Inv X pins σ H s)(k:∀b u,s.heap.get? b=some u->h'.get? b=some u):Inv X pins σ H {s with heap:=h',toks:=t'}:=I.un (Un.kept k) (I.hok.kept k)
theorem Inv.laid {a:Addr}{o:HO}{t':Nat}(I:Inv X pins σ H s)(k:∀b u,s.heap.get? b=some u->h'.get? b=some u)(c:s.heap.objs.size<=a)(new:zS X.prog X.w (upd H a o) h' a o):
  Inv X pins σ (upd H a o) {s with heap:=h',toks:=t'}:=I.un (Un.laid k c (I.hok.fresh c)) (I.hok.laid k c new)
theorem Inv.write {x e:Addr}{o:HO}{t':Nat}(I:Inv X pins σ H s)(c:Mut (H x))(he:e=x\/H e=some (.own x))(k:∀b u,b≠e->s.heap.get? b=some u->h'.get? b=some u)(a:∃u,h'.get? e=some u)
  (new:zS X.prog X.w (upd H x o) h' x o):Inv X pins σ (upd H x o) {s with heap:=h',toks:=t'}:=I.un (Un.write c he k a) (I.hok.write c he k a new)
theorem Inv.pins_of {a:List (Addr×Obj)}(I:Inv X pins σ H s)(h:∀p∈a,s.heap.get? p.1=some p.2/\H p.1=none/\p.1≠X.env.locals/\p.1∉X.fs/\∀v,p.2.data≠.cell v):Inv X a σ H s:=
 ⟨I.ok,I.os,I.bare,I.base,I.loc,I.cell,I.free,I.freeC,λp b=>(zK6.mp b).elim (λz=>I.pin p (zL1 _ z)) (h p),I.hok,I.len⟩
theorem pC {N:List Str}(d:N.Nodup){i j:Nat}{x:Str}(a:N[i]?=some x)(b:N[j]?=some x):i=j:=by
 obtain⟨e,e1⟩:=zI8.mp a;obtain⟨f,c⟩:=zI8.mp b;exact(List.getElem_inj d).mp (e1.trans c.symm)
theorem qh {M:Model}{A:Around}{E:Value->Shared->Prop}{i:Nat}{x:Str}{v:V}{u:Value}{Q:Unit->Shared->Prop}(I:Inv X pins σ H s)(hN:X.N.Nodup)(hi:X.N[i]?=some x)(l:Loc X.env.scope x)(r:RelV v u)
  (h:∀s',Inv X pins (σ.set i (some v)) H s'->(∃a,Heap.SameBut a s.heap s'.heap/\(a=X.env.locals\/X.env.cells.lookup x=some a))->Q () s') (hf:X.fn x=true\/X.env.scope.names.lookup x=some .local:=by first|exact .inl rfl|exact .inr rfl|assumption):wpAny M A (storeName X.env x u) Q E s:=by
 obtain⟨m,hn,hl⟩:=id I.loc;have O:(X.env.scope.kind == .class||(X.env.scope.kind == .module&&X.env.locals != X.env.globals))=false:=by rw[I.ok.kind];rfl
 have C:i<σ.length:=by rw[I.len];exact(zI8.mp hi).1
 have cne:=I.cne;have tracked:∀{a:Addr} {h':Heap},(∃o,s.heap.get? a=some o/\H a=none)->Heap.SameBut a s.heap h'->HOk X.prog X.w H h':=λ{a h'} ha f b ob e=>by
  obtain⟨_,_,t⟩:=ha;refine(I.hok b ob e).stay (λc P g q=>(f.2 c ?_).trans q) (λ_ q=>q) λ_ _ q=>q;rintro rfl;rcases g with rfl|g
  ·rw[t]at e;cases e
  ·rw[t]at g;cases g
 rcases l with hk|hk
 ·refine wpAny_storeName_local hk hn (λh' W f=>?_) O;obtain⟨oL,_,_,U,_⟩:=id hn;refine h _ ⟨I.ok,I.os,I.bare,⟨λb o e n hb l=>?_,λb o e n hb l=>?_,I.base.free,λb o e l=>?_,I.base.tups,I.base.frzs,I.base.tbls⟩,⟨_,W,λj y T e1 B S=>?_⟩,λy c e=>?_,I.free,I.freeC,λp Z=>?_,tracked ⟨oL,U,I.free⟩ f,by simpa using I.len⟩ ⟨_,f,.inl rfl⟩
  ·exact(f.2 b (zK2 (zI9 (zJ5 e) I.ok.above))).trans (I.base.keep b o e n hb l)
  ·obtain⟨sl,e1⟩:=I.base.slot b o e n hb l;exact⟨sl,(f.2 b (zK2 (zI9 (zJ5 e) I.ok.above))).trans e1⟩
  ·obtain⟨o',e1⟩:=I.base.there b o e l;exact⟨o',(f.2 b (zK2 (zI9 (zJ5 e) I.ok.above))).trans e1⟩
  ·by_cases F:j=i
   ·subst F;rw[hi]at e1;cases e1;rw[zS7 C]at B;cases B;exact⟨u,r,.inl ⟨hk,by simp⟩⟩
   ·rw[zO5 (zN4 F)]at B;obtain⟨Y,R,q⟩:=hl j y T e1 B S;refine⟨Y,R,?_⟩;rcases q with⟨k,e⟩|⟨k,c,e,z⟩
    ·refine .inl ⟨k,?_⟩;have:y≠x:=λe=>F (pC hN e1 (e▸hi));simp[this,e]
    ·exact .inr ⟨k,c,e,z.sameBut f (cne y c e)⟩
  ·obtain⟨P,z⟩:=I.cell y c e;exact⟨P,z.sameBut f (cne y c e)⟩
  ·obtain⟨e,n,ne,nf,d⟩:=I.pin p Z;exact⟨(f.2 p.1 ne).trans e,n,ne,nf,d⟩
 ·have D:X.fn x=true:=by
   rcases hf with z|z
   ·exact z
   ·rw[z]at hk;cases hk
  obtain⟨c,g⟩:=I.ok.has x (.inl hk);obtain⟨P,z⟩:=I.cell x c g;refine wpAny_storeName_cell I.ok.kind hk g z (λh' L f=>?_);obtain⟨oc,J,K⟩:=id z;refine h {s with heap:=h'} ⟨I.ok,I.os,I.bare,⟨λb o e n hb l=>?_,λb o e n hb l=>?_,I.base.free,λb o e l=>?_,I.base.tups,I.base.frzs,I.base.tbls⟩,⟨m,hn.sameBut f (zN4 (cne x c g)),λj y T e1 B S=>?_⟩,λy c' e=>?_,I.free,I.freeC,λp Z=>?_,tracked ⟨oc,J,I.freeC x c g⟩ f,by simpa using I.len⟩ ⟨c,f,.inr g⟩
  ·exact(f.2 b (zK2 (zI9 (zJ5 e) (I.ok.cab x c D g)))).trans (I.base.keep b o e n hb l)
  ·obtain⟨sl,e1⟩:=I.base.slot b o e n hb l;exact⟨sl,(f.2 b (zK2 (zI9 (zJ5 e) (I.ok.cab x c D g)))).trans e1⟩
  ·obtain⟨o',e1⟩:=I.base.there b o e l;exact⟨o',(f.2 b (zK2 (zI9 (zJ5 e) (I.ok.cab x c D g)))).trans e1⟩
  ·by_cases F:j=i
   ·subst F;rw[hi]at e1;cases e1;rw[zS7 C]at B;cases B;exact⟨u,r,.inr ⟨.inl hk,c,g,L⟩⟩
   ·rw[zO5 (zN4 F)]at B;obtain⟨Y,R,q⟩:=hl j y T e1 B S;refine⟨Y,R,?_⟩;rcases q with q|⟨k,c',e,z'⟩
    ·exact .inl q
    ·refine .inr ⟨k,c',e,z'.sameBut f ?_⟩;rintro rfl;exact F (pC hN e1 (I.ok.inj _ _ _ e g▸hi))
  ·by_cases G:c'=c
   ·subst G;exact⟨_,L⟩
   ·obtain⟨w2,z2⟩:=I.cell y c' e;exact⟨w2,z2.sameBut f G⟩
  ·obtain⟨e,n,ne,nf,d⟩:=I.pin p Z;refine⟨(f.2 p.1 ?_).trans e,n,ne,nf,d⟩;intro q;rw[q,J]at e;have q':oc=p.2:=zM7 e;exact d P (by rw[<-q'];exact K)
theorem oG {M:Model}{A:Around}{E:Value->Shared->Prop}{i:Nat}{x:Str}{v:V}{u:Value}{Q:Unit->Shared->Prop}(I:Inv X pins σ H s)(c:X.N.Nodup)(hi:X.N[i]?=some x)(a:Loc X.env.scope x)(r:RelV v u)
  (h:∀s',Inv X pins (σ.set i (some v)) H s'->Q () s') (hf:X.fn x=true\/X.env.scope.names.lookup x=some .local:=by first|exact .inl rfl|exact .inr rfl|assumption):wpAny M A (storeName X.env x u) Q E s:=
 qh I c hi a r (λs' b _=>h s' b) hf
theorem Inv.call' {s':Shared}{ch:List Addr}(I:Inv X pins σ H s)(d:s'.os=s.os)(u:Un (frs X.stack) ch H H' s.heap s'.heap)(hok:HOk X.prog X.w H' s'.heap)(hg:AllBare s'.gens)
  (a:∀b∈ch,(b∈X.ex\/X.s₀.heap.objs.size<=b)/\b≠X.env.locals/\(∀x c,X.env.cells.lookup x=some c->c≠b)/\∀p∈X.pn++pins,p.1≠b):Inv X pins σ H' s':=by
 obtain⟨h',g',d',t',o'⟩:=s';have e:o'=s.os:=d;subst e;exact I.call (g':=g') (t':=t') (d':=d') u hok hg a
end
abbrev XK :=Value->Option Addr->Hp->Prop
abbrev St :=List (Option V)
abbrev VK :=V->Hp->Prop
abbrev TE :=St->Hp->VK->Prop
abbrev TT :=St->Hp->(Bool->Hp->Prop)->Prop
abbrev TA :=St->Hp->(List V->Hp->Prop)->Prop
structure Ends where
 nx:St->Hp->Prop
 rt:VK
 bk:St->Hp->Prop:=λ_ _=>False
 ct:St->Hp->Prop:=λ_ _=>False
abbrev TS :=Ends->St->Hp->Prop
def EP (X:Cx)(pins:List (Addr×Obj))(σ:St)(Q:VK)(u:Value)(s':Shared):Prop:=∃v H',Inv X pins σ H' s'/\RelV v u/\Q v H'
def TP (X:Cx)(pins:List (Addr×Obj))(σ:St)(Q:Bool->Hp->Prop)(b:Bool)(s':Shared):Prop:=∃H',Inv X pins σ H' s'/\Q b H'
def AP (X:Cx)(pins:List (Addr×Obj))(σ:St)(Q:List V->Hp->Prop)(us:List Value)(s':Shared):Prop:=∃vs H',Inv X pins σ H' s'/\Vals vs us/\Q vs H'
def SP (X:Cx)(pins:List (Addr×Obj))(D:Ends)(f:Flow)(s':Shared):Prop:=
 match f with
 |.next=>∃a H',Inv X pins a H' s'/\D.nx a H'
 |.brk=>∃a H',Inv X pins a H' s'/\D.bk a H'
 |.cont=>∃a H',Inv X pins a H' s'/\D.ct a H'
 |.ret u=>∃v a H',Inv X pins a H' s'/\RelV v u/\D.rt v H'
def PE (X:Cx)(e:Expr)(t:TE):Prop:=
 ∀(pins:List (Addr×Obj)) (s:Shared) (σ:St) (H:Hp) (Q:VK),Inv X pins σ H s->t σ H Q->wpAny (model X.prog X.w) X.A (eval e X.env) (EP X pins σ Q) X.xe s
def PT (X:Cx)(e:Expr)(t:TT):Prop:=
 ∀(pins:List (Addr×Obj)) (s:Shared) (σ:St) (H:Hp) (Q:Bool->Hp->Prop),Inv X pins σ H s->t σ H Q->wpAny (model X.prog X.w) X.A (isTrue e X.env (eval e X.env)) (TP X pins σ Q) X.xe s
def PW (X:Cx)(e:Expr)(t:TT):Prop:=
 ∀(whole:Sem Value) (pins:List (Addr×Obj)) (s:Shared) (σ:St) (H:Hp) (Q:Bool->Hp->Prop),Inv X pins σ H s->t σ H Q->wpAny (model X.prog X.w) X.A (isTrue e X.env whole) (TP X pins σ Q) X.xe s
theorem PW.pt {X:Cx}{e:Expr}{t:TT}(h:PW X e t):PT X e t:=h _
def PA (X:Cx)(es:List Expr)(t:TA):Prop:=
 ∀(pos:Pos) (pins:List (Addr×Obj)) (s:Shared) (σ:St) (H:Hp) (Q:List V->Hp->Prop),Inv X pins σ H s->t σ H Q->wpAny (model X.prog X.w) X.A (spliced (backTo pos (starEach es X.env))) (AP X pins σ Q) X.xe s
def PS (X:Cx)(st:Stmt)(t:TS):Prop:=
 ∀(pins:List (Addr×Obj)) (s:Shared) (σ:St) (H:Hp) (D:Ends),Inv X pins σ H s->t D σ H->wpAny (model X.prog X.w) X.A (exec st X.env) (SP X pins D) X.xe s
def PSs (X:Cx)(st:List Stmt)(t:TS):Prop:=
 ∀(pins:List (Addr×Obj)) (s:Shared) (σ:St) (H:Hp) (D:Ends),Inv X pins σ H s->t D σ H->wpAny (model X.prog X.w) X.A (execs st X.env) (SP X pins D) X.xe s
theorem thn {α:Type}{t:Sem α}{Q b:α->Shared->Prop}{M:Model}{A:Around}{E:Value->Shared->Prop}{s:Shared}(h:wpAny M A t Q E s)(c:∀a s,Q a s->b a s):wpAny M A t b E s:=zN9 h c λ_ _ x=>x
section
variable {X:Cx}
def zr1 (i:Nat):TE:=λσ H Q=>∃v,σ[i]?=some (some v)/\Q v H
def tC (v:V):TE:=λ_ H Q=>Q v H
theorem yX {i:Nat}{x:Str}{pos:Pos}(j:X.N[i]?=some x)(g:Vis X.env.scope x)(hd:(x == ("__debug__":Str))=false:=by decide)(b:(x == ("__classdict__":Str))=false:=by decide):PE X (.Name x pos) (zr1 i):=by
 intro pins s σ H Q I h;obtain⟨v,e,h⟩:=h;obtain⟨m,hn,f⟩:=I.loc;obtain⟨u,r,l⟩:=f i x v j e g;have fin:EP X pins σ Q u s:=⟨v,H,I,r,h⟩;rcases l with⟨hk,hm⟩|⟨hk,c,d,a⟩
 ·exact wpAny_Name (wpAny_loadName_local I.ok.kind hk hn hm fin) hd
 ·rcases hk with hk|hk
  ·exact wpAny_Name (wpAny_loadName_cell I.ok.kind hk d a fin) hd
  ·exact wpAny_Name (wpAny_loadName_free I.ok.kind hk d a fin b) hd
theorem yc {i j pos}:PE X (.Constant (.int i) j pos) (tC (.int i)):=λ_ _ _ H _ I h=>wpAny_Constant_int ⟨.int i,H,I.tok _,⟨_,rfl⟩,h⟩
theorem zD3 {b j pos}:PE X (.Constant (.bool b) j pos) (tC (.bl b)):=λ_ _ _ H _ I h=>Constant_bool ⟨.bl b,H,I,rfl,h⟩
theorem dA {j pos}:PE X (.Constant .none j pos) (tC .non):=λ_ _ _ H _ I h=>Constant_none ⟨.non,H,I,rfl,h⟩
theorem zq0 {x j pos}:PE X (.Constant (.str x) j pos) (tC (.str x)):=λ_ _ _ H _ I h=>Calls.Constant_str ⟨.str x,H,I.tok _,⟨_,rfl⟩,h⟩
def Gl (X:Cx)(x:Str):Prop:=X.env.kindOf x=some .globalImplicit
theorem vK {E:Value->Shared->Prop}{pins:List (Addr×Obj)}{s:Shared}{σ:St}{H:Hp}{x:Str}{u:Value}{pos:Pos}{Q:Value->Shared->Prop}(I:Inv X pins σ H s)(hg:Gl X x)(hm:X.mg x=some u)(h:Q u s)
  (hd:(x == ("__debug__":Str))=false:=by decide):wpAny (model X.prog X.w) X.A (eval (.Name x pos) X.env) Q E s:=
 Calls.Name_function_global I.ok.kind hg (Calls.loadGlobal_global (by rw[I.ok.glob];exact I.mod.glob.keeps I.bk) hm h) hd
theorem xF {E:Value->Shared->Prop}{pins:List (Addr×Obj)}{s:Shared}{σ:St}{H:Hp}{x:Str}{u:Value}{pos:Pos}{Q:Value->Shared->Prop}(I:Inv X pins σ H s)(hg:Gl X x)(hm:X.mg x=none)(a:bootBuiltins x=some u)(h:Q u s)
  (hn:x≠"__name__":=by decide) (hd:(x == ("__debug__":Str))=false:=by decide):wpAny (model X.prog X.w) X.A (eval (.Name x pos) X.env) Q E s:=by
 obtain⟨mb,c,b⟩:=I.mod.blt;exact Calls.Name_function_global I.ok.kind hg (Calls.loadGlobal_builtin (by rw[I.ok.glob];exact I.mod.glob.keeps I.bk) hm (by rw[I.ok.blt];exact c.keeps I.bk) ((b x hn).trans a) h) hd
theorem aO {x:Str}{v:V}{u:Value}{pos:Pos}(hg:Gl X x)(hm:X.mg x=some u)(r:RelV v u)(hd:(x == ("__debug__":Str))=false:=by decide):PE X (.Name x pos) (tC v):=
 λ_ _ _ H _ I h=>vK I hg hm ⟨v,H,I,r,h⟩ hd
theorem za4 {x:Str}{v:V}{u:Value}{pos:Pos}(hg:Gl X x)(hm:X.mg x=none)(a:bootBuiltins x=some u)(r:RelV v u)(hn:x≠"__name__":=by decide)(hd:(x == ("__debug__":Str))=false:=by decide):PE X (.Name x pos) (tC v):=
 λ_ _ _ H _ I h=>xF I hg hm a ⟨v,H,I,r,h⟩ hn hd
variable {a b:Expr}{ta tb:TE}{pos:Pos}
def tB (t:TE):TT:=λσ H Q=>t σ H λx H1=>∃c,x=.bl c/\Q c H1
theorem zn3 {e:Expr}{t:TE}(h:PE X e t)(he:∀whole,isTrue e X.env whole=(do let v <-whole;standAt e.pos;holding [v] (truthy v)):=by intro _;rfl):PT X e (tB t):=by
 intro pins s σ H Q I hw;refine isTrue_plain (thn (h pins s σ H _ I hw) λv s1 c=>?_) (he _);obtain⟨x,H1,f,i,g⟩:=c;obtain⟨d,rfl,q⟩:=g;cases i;exact zQ6 ⟨H1,f,q⟩
variable {tA tB':TT}{rest:List Expr}
def zF5 (t u:TT):TT:=λσ H Q=>t σ H λc H1=>if c=true then u σ H1 Q else Q false H1
def tOr (t u:TT):TT:=λσ H Q=>t σ H λc H1=>if c=true then Q true H1 else u σ H1 Q
def zG7 (t:TT):TT:=λσ H Q=>t σ H λc H1=>Q (!c) H1
theorem zb2 (ha:PT X a tA):PW X (.BoolOp .And [a] pos) tA:=by
 intro d pins s σ H Q I h;refine isTrue_and (thn (ha pins s σ H Q I h) λc s1 e=>?_);cases c with
 |true=>exact isTrue_and_nil e
 |false=>exact e
theorem zs9 (ha:PT X a tA):PW X (.BoolOp .Or [a] pos) tA:=by
 intro d pins s σ H Q I h;refine isTrue_or (thn (ha pins s σ H Q I h) λc s1 e=>?_);cases c with
 |false=>exact isTrue_or_nil e
 |true=>exact e
theorem zr2 (ha:PT X a tA)(hb:PW X (.BoolOp .And (b::rest) pos) tB'):PW X (.BoolOp .And (a::b::rest) pos) (zF5 tA tB'):=by
 intro g pins s σ H Q I h;refine isTrue_and (thn (ha pins s σ H _ I h) λc s1 d=>?_);obtain⟨H1,e,f⟩:=d;cases c with
 |true=>exact hb g pins s1 σ H1 Q e f
 |false=>exact⟨H1,e,f⟩
theorem zu9 (ha:PT X a tA)(hb:PW X (.BoolOp .Or (b::rest) pos) tB'):PW X (.BoolOp .Or (a::b::rest) pos) (tOr tA tB'):=by
 intro g pins s σ H Q I h;refine isTrue_or (thn (ha pins s σ H _ I h) λc s1 d=>?_);obtain⟨H1,e,f⟩:=d;cases c with
 |true=>exact⟨H1,e,f⟩
 |false=>exact hb g pins s1 σ H1 Q e f
theorem zm3 (ha:PT X a tA):PT X (.UnaryOp .Not a pos) (zG7 tA):=by
 intro pins s σ H Q I h;exact isTrue_not (ha pins s σ H (λc H1=>Q (!c) H1) I h)
def zw5 (ta tb:TE):TE:=λσ H Q=>ta σ H λx H1=>∃c,x=.bl c/\if c=true then tb σ H1 Q else Q (.bl false) H1
def zE4 (ta tb:TE):TE:=λσ H Q=>ta σ H λx H1=>∃c,x=.bl c/\if c=true then Q (.bl true) H1 else tb σ H1 Q
def zA3 (ta:TE):TE:=λσ H Q=>ta σ H λx H1=>∃c,x=.bl c/\Q (.bl (!c)) H1
theorem zo5 {op}{t:TE}(h:PE X a t):PE X (.BoolOp op [a] pos) t:=λpins s σ H Q I hw=>BoolOp_one (h pins s σ H Q I hw)
theorem zm5 (ha:PE X a ta)(hb:PE X (.BoolOp .And (b::rest) pos) tb):PE X (.BoolOp .And (a::b::rest) pos) (zw5 ta tb):=by
 intro pins s σ H Q I h;refine BoolOp_and (thn (ha pins s σ H _ I h) λv s1 d=>?_);obtain⟨x,H1,f,g,e⟩:=d;obtain⟨c,rfl,e⟩:=e;cases g;refine zQ6 ?_;cases c with
 |true=>exact hb pins s1 σ H1 Q f e
 |false=>exact⟨.bl false,H1,f,rfl,e⟩
theorem zv4 (ha:PE X a ta)(hb:PE X (.BoolOp .Or (b::rest) pos) tb):PE X (.BoolOp .Or (a::b::rest) pos) (zE4 ta tb):=by
 intro pins s σ H Q I h;refine BoolOp_or (thn (ha pins s σ H _ I h) λv s1 d=>?_);obtain⟨x,H1,f,g,e⟩:=d;obtain⟨c,rfl,e⟩:=e;cases g;refine zQ6 ?_;cases c with
 |false=>exact hb pins s1 σ H1 Q f e
 |true=>exact⟨.bl true,H1,f,rfl,e⟩
theorem zt0 (ha:PE X a ta):PE X (.UnaryOp .Not a pos) (zA3 ta):=by
 intro pins s σ H Q I h;refine UnaryOp_ (thn (ha pins s σ H _ I h) λv s1 d=>?_);obtain⟨x,H1,f,g,e⟩:=d;obtain⟨c,rfl,e⟩:=e;cases g;exact not_of (zQ6 ⟨.bl (!c),H1,f,rfl,e⟩)
def tIf (t:TT)(ta tb:TE):TE:=λσ H Q=>t σ H λc H1=>if c=true then ta σ H1 Q else tb σ H1 Q
theorem dI {c:Expr}(i:PT X c tA)(ha:PE X a ta)(hb:PE X b tb):PE X (.IfExp c a b pos) (tIf tA ta tb):=by
 intro pins s σ H Q I h;refine wpAny_IfExp (thn (i pins s σ H _ I h) λd s1 e=>?_);obtain⟨H1,f,g⟩:=e;cases d with
 |true=>exact ha pins s1 σ H1 Q f g
 |false=>exact hb pins s1 σ H1 Q f g
end
def SqL (K:PySem.W.Frag)(H:Hp)(a:Addr)(xs:List V):Prop:=
 Rd H a (.lst xs)\/
  ∃(o:Obj) (its:Array Value) (n:Nat),K.lookup a=some o/\o.cls=.type "list"/\o.dict=none/\o.data=.seq its n/\its.size<=sizeLine/\Vals xs its.toList
def SqT (K:PySem.W.Frag)(H:Hp)(a:Addr)(xs:List V):Prop:=
 Rd H a (.tup xs)\/
  ∃(o:Obj) (its:Array Value) (n:Nat),K.lookup a=some o/\o.cls=.type "tuple"/\o.data=.seq its n/\its.size<=sizeLine/\Vals xs its.toList
def zI1 :Value->Option V
 |.none=>some .non
 |.bool b=>some (.bl b)
 |.int i _=>some (.int i)
 |.str x _=>some (.str x)
 |.bytes b _=>some (.byt b)
 |.float b _=>some (.flt b)
 |.ref a=>some (.ref a)
 |.type n=>some (.ty n)
 |_=>none
theorem RelV.abs {x:V}{u:Value}(r:RelV x u):zI1 u=some x:=by
 cases x with
 |non=>cases r;rfl
 |bl _=>cases r;rfl
 |int _=>obtain⟨t,rfl⟩:=r;rfl
 |str _=>obtain⟨t,rfl⟩:=r;rfl
 |byt _=>obtain⟨t,rfl⟩:=r;rfl
 |flt _=>obtain⟨t,rfl⟩:=r;rfl
 |ref _=>cases r;rfl
 |ty _=>cases r;rfl
theorem RelV.inj {x y:V}{u:Value}(r:RelV x u)(q:RelV y u):x=y:=zM7 (r.abs.symm.trans q.abs)
theorem Vals.inj {xs ys:List V}{us:List Value}(h:Vals xs us)(k:Vals ys us):xs=ys:=by
 induction h generalizing ys with
 |nil=>cases k;rfl
 |cons r _ b=>cases k with
  |cons a t'=>rw[r.inj a,b t']
section
variable {X:Cx}{pins:List (Addr×Obj)}{σ:St}{H:Hp}{s:Shared}{a:Addr}{xs ys:List V}
theorem SqL.of {K:PySem.W.Frag}(h:H a=some (.lst xs)):SqL K H a xs:=.inl (.inl h)
theorem SqT.of {K:PySem.W.Frag}(h:H a=some (.tup xs)):SqT K H a xs:=.inl (.inl h)
theorem Inv.list (I:Inv X pins σ H s)(h:SqL X.K H a xs):∃its:List Value,Vals xs its/\PlainL s.heap a its.toArray/\xs.length<=sizeLine:=by
 rcases h with h|⟨o,its,n,hk,c,hd,b,hz,r⟩
 ·obtain⟨z,its,n,r,e⟩:=h.ok I.hok;exact⟨its,r,⟨_,n,e,rfl,rfl,rfl⟩,z⟩
 ·refine⟨its.toList,r,⟨o,n,I.kIn a o hk,c,hd,by simpa using b⟩,?_⟩;have e:=r.length;simp only[zP7]at e;exact zK1 (zL7 e) hz
theorem Inv.tuple (I:Inv X pins σ H s)(h:SqT X.K H a xs):∃its:List Value,Vals xs its/\IsTup s.heap a its.toArray/\xs.length<=sizeLine:=by
 rcases h with h|⟨o,its,n,hk,c,b,hz,r⟩
 ·obtain⟨z,its,r,p⟩:=h.ok I.hok;exact⟨its,r,p,z⟩
 ·refine⟨its.toList,r,⟨o,I.kIn a o hk,c,n,by simpa using b⟩,?_⟩;have e:=r.length;simp only[zP7]at e;exact zK1 (zL7 e) hz
theorem Inv.list_inj (I:Inv X pins σ H s)(h:SqL X.K H a xs)(h':SqL X.K H a ys):xs=ys:=by
 obtain⟨its,r,⟨o,n,e,_,_,d⟩,_⟩:=I.list h;obtain⟨its',c,⟨o',g,b,_,_,d'⟩,_⟩:=I.list h';rw[e]at b;cases b;rw[d]at d';injection d' with f _;have:its=its':=by simpa using congrArg Array.toList f
 subst this;exact r.inj c
end
abbrev Cx.wish (X:Cx)(E:Value->Shared->Prop):Cx:={X with xe:=E}
abbrev Cx.nox (X:Cx):Cx:=X.wish λ_ _=>False
theorem Cx.Ok.wish {X:Cx}(ok:X.Ok)(E:Value->Shared->Prop):(X.wish E).Ok:=
 ⟨ok.mod,ok.kind,ok.glob,ok.blt,ok.above,ok.inj,ok.has,ok.cab,ok.hd,ok.frames,ok.stk,ok.exf,ok.bs,ok.bsz,ok.noex,ok.exfs,ok.funs,ok.frf⟩
theorem Cx.Ok.unwish {X:Cx}{E:Value->Shared->Prop}(ok:(X.wish E).Ok):X.Ok:=
 ⟨ok.mod,ok.kind,ok.glob,ok.blt,ok.above,ok.inj,ok.has,ok.cab,ok.hd,ok.frames,ok.stk,ok.exf,ok.bs,ok.bsz,ok.noex,ok.exfs,ok.funs,ok.frf⟩
section
variable {X:Cx}{pins:List (Addr×Obj)}{σ:St}{H:Hp}{s:Shared}{E:Value->Shared->Prop}
theorem Inv.wish (I:Inv X pins σ H s)(E:Value->Shared->Prop):Inv (X.wish E) pins σ H s:=⟨I.ok.wish E,I.os,I.bare,I.base,I.loc,I.cell,I.free,I.freeC,I.pin,I.hok,I.len⟩
theorem Inv.unwish (I:Inv (X.wish E) pins σ H s):Inv X pins σ H s:=⟨I.ok.unwish,I.os,I.bare,I.base,I.loc,I.cell,I.free,I.freeC,I.pin,I.hok,I.len⟩
theorem SP.unwish {D:Ends}{f:Flow}{s':Shared}(h:SP (X.wish E) pins D f s'):SP X pins D f s':=by
 cases f with
 |next=>obtain⟨a,H',I,q⟩:=h;exact⟨a,H',I.unwish,q⟩
 |brk=>obtain⟨a,H',I,q⟩:=h;exact⟨a,H',I.unwish,q⟩
 |cont=>obtain⟨a,H',I,q⟩:=h;exact⟨a,H',I.unwish,q⟩
 |ret u=>obtain⟨v,a,H',I,r,q⟩:=h;exact⟨v,a,H',I.unwish,r,q⟩
theorem PSs.nox {st:List Stmt}{t:TS}(h:PSs X.nox st t):PSs X st t:=λpins s σ H D I hw=>
 zN9 (h pins s σ H D (I.wish _) hw) (λ_ _ q=>q.unwish) λ_ _ z=>False.elim z
end
section
variable {X:Cx}{st:Stmt}{rest:List Stmt}{t u:TS}{e:Expr}{te:TE}{pos:Pos}
def zC9 :TS:=λD σ H=>D.nx σ H
def zB7 (t u:TS):TS:=λD σ H=>t {D with nx:=u D} σ H
theorem lV :PSs X [] zC9:=λ_ _ σ H _ I h=>wpAny_execs_nil ⟨σ,H,I,h⟩
theorem zG (b:PS X st t)(d:PSs X rest u):PSs X (st::rest) (zB7 t u):=by
 intro pins s σ H D I h;refine wpAny_execs_cons (thn (b pins s σ H {D with nx:=u D} I h) λf s1 q=>?_);cases f with
 |next=>
  obtain⟨a,H',c,q⟩:=q;exact d pins s1 a H' D c q
 |ret v=>exact q
 |brk=>exact q
 |cont=>exact q
theorem tE (a:PS X st t):PSs X [st] t:=by
 intro pins s σ H D I h;refine wpAny_execs_cons (thn (a pins s σ H D I h) λf s1 q=>?_);cases f with
 |next=>exact wpAny_execs_nil q
 |ret v=>exact q
 |brk=>exact q
 |cont=>exact q
theorem Inv.quiet {pins:List (Addr×Obj)}{σ:St}{H:Hp}{s:Shared}(I:Inv X pins σ H s):interactive X.env=false:=by simp[interactive,I.ok.kind]
def zx0 (te:TE):TS:=λD σ H=>te σ H λ_ H1=>D.nx σ H1
theorem kF (he:PE X e te)(c:swapsWith e none pos.line X.env=pure false:=by rfl):PS X (.Expr e pos) (zx0 te):=by
 intro pins s σ H D I h;exact wpAny_Expr_any (thn (he pins s σ H _ I h) λv s1 a=>by obtain⟨x,H1,b,f,d⟩:=a;exact⟨σ,H1,b,d⟩) I.quiet c
def zH2 (te:TE):TS:=λD σ H=>te σ H D.rt
theorem sS (he:PE X e te):PS X (.Return (some e) pos) (zH2 te):=by
 intro pins s σ H D I h;exact wpAny_Return_some (thn (he pins s σ H _ I h) λv s1 a=>by obtain⟨x,H1,b,d,c⟩:=a;exact⟨x,σ,H1,b,d,c⟩)
def zG6 (c:TT)(t u:TS):TS:=λD σ H=>c σ H λb H1=>if b=true then t D σ H1 else u D σ H1
theorem zg1 {c:Expr}{a b:List Stmt}{j:TT}(k:PT X c j)(ha:PSs X a t)(hb:PSs X b u):PS X (.If c a b pos) (zG6 j t u):=by
 intro pins s σ H D I h;refine wpAny_If (thn (k pins s σ H _ I h) λd s1 f=>?_);obtain⟨H1,g,i⟩:=f;cases d with
 |true=>exact ha pins s1 σ H1 D g i
 |false=>exact hb pins s1 σ H1 D g i
end
abbrev TG :=V->St->Hp->(St->Hp->Prop)->Prop
abbrev TGs :=List V->St->Hp->(St->Hp->Prop)->Prop
def PG (X:Cx)(target:Expr)(t:TG):Prop:=
 ∀(pins:List (Addr×Obj)) (s:Shared) (σ:St) (H:Hp) (v:V) (u:Value) (Q:St->Hp->Prop),Inv X pins σ H s->RelV v u->t v σ H Q->
  wpAny (model X.prog X.w) X.A (assign target X.env u) (λ_ s'=>∃a H',Inv X pins a H' s'/\Q a H') X.xe s
def PGs (X:Cx)(b:List Expr)(t:TGs):Prop:=
 ∀(pins:List (Addr×Obj)) (s:Shared) (σ:St) (H:Hp) (vs:List V) (us:List Value) (Q:St->Hp->Prop),Inv X pins σ H s->Vals vs us->t vs σ H Q->
  wpAny (model X.prog X.w) X.A (assignInOrder ((assignEach b X.env).map (·.2)) us) (λ_ s'=>∃a H',Inv X pins a H' s'/\Q a H') X.xe s
abbrev zp5 :=V->V->V->Hp->(Hp->Prop)->Prop
def zC4 (X:Cx)(t:zp5):Prop:=
 ∀(pins:List (Addr×Obj)) (s:Shared) (σ:St) (H:Hp) (o i v:V) (a b u:Value) (Q:Hp->Prop),Inv X pins σ H s->RelV o a->RelV i b->RelV v u->t o i v H Q->
  wpAny (model X.prog X.w) X.A (setItem a b u) (λ_ s'=>∃H',Inv X pins σ H' s'/\Q H') X.xe s
section
variable {X:Cx}{pos:Pos}
def sO (i:Nat):TG:=λv σ H Q=>Q (σ.set i (some v)) H
theorem zM {i:Nat}{x:Str}(c:X.N.Nodup)(hi:X.N[i]?=some x)(a:Loc X.env.scope x)(hf:X.fn x=true\/X.env.scope.names.lookup x=some .local:=by first|exact .inl rfl|exact .inr rfl|assumption):PG X (.Name x pos) (sO i):=by
 intro pins s σ H v u Q I r h;exact wpAny_assign_Name (oG I c hi a r (λs' b=>⟨_,H,b,h⟩) hf)
def zs3 :TGs:=λvs σ H Q=>vs=[]/\Q σ H
def kJ (t:TG)(u:TGs):TGs:=λvs σ H Q=>∃v r,vs=v::r/\t v σ H λa H'=>u r a H' Q
theorem tN :PGs X [] zs3:=by
 intro pins s σ H vs us Q I r h;obtain⟨e,h⟩:=h;subst e;cases r;exact assignInOrder_nil ⟨σ,H,I,h⟩
theorem wm {e:Expr}{es:List Expr}{t:TG}{u:TGs}(d:PG X e t)(f:PGs X es u)
  (i:(assignEach (e::es) X.env).map (·.2)=assign e X.env::(assignEach es X.env).map (·.2):=by rfl):PGs X (e::es) (kJ t u):=by
 intro pins s σ H vs us Q I r h;obtain⟨v,k,e1,h⟩:=h;subst e1;cases r with
 |cons r g=>
  rw[i];refine assignInOrder_cons (thn (d pins s σ H _ _ _ I r h) λ_ s1 a=>?_);obtain⟨b,H1,c,j⟩:=a;exact f pins s1 b H1 _ _ Q c g j
def gX (K:PySem.W.Frag)(n:Nat)(t:TGs):TG:=λv σ H Q=>∃a xs,v=.ref a/\SqT K H a xs/\xs.length=n/\t xs σ H Q
theorem zo8 {es:List Expr}{k:Nat}{t:TGs}{n:Nat}(j:X.calm=true)(h:PGs X es t)
  (hn:(assignEach es X.env).length=n:=by rfl) (c:(assignEach es X.env).findIdx? (·.1)=none:=by rfl):PG X (.Tuple es k pos) (gX X.K n t):=by
 intro pins s σ H v u Q I r hw;obtain⟨a,xs,e1,hq,i,hw⟩:=hw;subst e1;cases r;obtain⟨its,d,l,hz⟩:=I.tuple hq;refine assign_Tuple_tuple (I.ok.hd j) l (by simp[hn,<-i,d.length]) c λh' g=>?_;have f:Inv X pins σ H {s with heap:=h'}:=I.kept (t':=s.toks) λb o e=>g b o (zK2 (zJ5 e)) e;exact h pins _ σ H xs _ Q f (by simpa using d) hw
def zv6 (to ti:TE)(t:zp5):TG:=λv σ H Q=>to σ H λo H1=>ti σ H1 λi b=>t o i v b λa=>Q σ a
theorem nP {o i:Expr}{to ti:TE}{t:zp5}(g:PE X o to)(hi:PE X i ti)(l:zC4 X t)
  (ha:∀v,assign (.Subscript o i pos) X.env v=(do
   let a <-holding [v] (eval o X.env)
   let b <-holding [v,a] (eval i X.env)
   standAt pos
   holding [v,a,b] (setItem a b v)
   release [v,a,b] []):=by intro _;rfl):PG X (.Subscript o i pos) (zv6 to ti t):=by
 intro pins s σ H v u Q I r h;rw[ha];refine zI3 (zN7 (thn (g pins s σ H _ I h) λa s1 d=>?_));obtain⟨x,H1,w,n,m⟩:=d;refine zI3 (zN7 (thn (hi pins s1 σ H1 _ w m) λb s2 e=>?_));obtain⟨y,z,k,j,q⟩:=e;refine zI3 (wpAny_standAt (zI3 (zN7 (thn (l pins s2 σ z x y v a b u _ k n j r q) λ_ s3 c=>?_))));obtain⟨p,A,f⟩:=c;exact wpAny_release ⟨σ,p,A,f⟩
def zn0 (a:TE)(g:TG):TS:=λD σ H=>a σ H λx H1=>g x σ H1 D.nx
theorem nE {tg e:Expr}{b:TE}{g:TG}(he:PE X e b)(hg:PG X tg g)(f:swapsWithSole [tg] e pos.line X.env=pure false:=by rfl)(hw:swappedStores [tg] e X.env=pure none:=by rfl)
  (d:(assignEach [tg] X.env).map (·.2)=[assign tg X.env]:=by rfl):PS X (.Assign [tg] e pos) (zn0 b g):=by
 intro pins s σ H D I h;refine wpAny_Assign_stores (thn (he pins s σ H _ I h) λv s1 a=>?_) f hw;obtain⟨x,H1,c,j,i⟩:=a;rw[d];exact thn (hg pins s1 σ H1 x v _ c j i) λ_ s2 q=>q
theorem qS {i:Nat}{x:Str}{e:Expr}{b:TE}{pos':Pos}(g:X.N.Nodup)(hi:X.N[i]?=some x)(d:Loc X.env.scope x)(he:PE X e b)(j:swapsWith e (some (.Name x pos')) pos.line X.env=pure false:=by rfl)(hf:X.fn x=true\/X.env.scope.names.lookup x=some .local:=by first|exact .inl rfl|exact .inr rfl|assumption):
  PS X (.Assign [.Name x pos'] e pos) (zn0 b (sO i)):=by
 intro pins s σ H D I h;refine wpAny_Assign_Name (thn (he pins s σ H _ I h) λv s1 a=>?_) j;obtain⟨y,H1,c,l,k⟩:=a;exact oG c g hi d l (λs2 f=>⟨_,H1,f,k⟩) hf
end
section
variable {X:Cx}{pos:Pos}
end
structure It where
 go:Nat->Hp->Prop
 yld:Nat->Hp->V->Hp->Prop
 stop:Nat->Hp->Prop
def yT (X:Cx)(pins:List (Addr×Obj))(H:Hp)(b:Addr):Prop:=
 H b=none/\b≠X.env.locals/\b∉X.fs/\(b∈X.ex\/X.s₀.heap.objs.size<=b)/\(∀x c,X.env.cells.lookup x=some c->c≠b)/\∀p∈X.pn++pins,p.1≠b
theorem Inv.fpOk {X:Cx}{pins:List (Addr×Obj)}{σ:St}{H H':Hp}{s:Shared}{b:Addr}(I:Inv X pins σ H s)(hb:s.heap.objs.size<=b)(hn:H' b=none):yT X pins H' b:=by
 refine⟨hn,zT6 (zI9 I.lt hb),I.nofs hb,.inr (zK1 I.sz hb),λx c e z=>?_,λp a z=>?_⟩
 ·obtain⟨v,q⟩:=I.cell x c e;exact absurd (zI9 q.lt (by rw[z];exact hb)) (zO2 _)
 ·exact absurd (zI9 (zJ5 (I.pin p a).1) (by rw[z];exact hb)) (zO2 _)
structure Turn (P:Program)(w:World)(K:PySem.W.Frag)(tg:Expr)(J:It)(fp:List Addr)(it:Addr)(tn:Nat->Heap->Prop):Prop where
 mem:it∈fp
 obj:∀i h,tn i h->∀b∈fp,∃o,h.get? b=some o/\∀v,o.data≠.cell v
 keep:∀i h h',tn i h->(∀b∈fp,∀o,h.get? b=some o->h'.get? b=some o)->tn i h'
 item:∀(X:Cx),X.prog=P->X.w=w->X.K=K->X.calm=true->∀(i:Nat) (pins:List (Addr×Obj)) (s:Shared) (σ:St) (H:Hp) (E:Value->Shared->Prop),Inv X pins σ H s->(∀b∈fp,yT X pins H b)->tn i s.heap->J.go i H->
  wpAny (model P w) X.A (pyNext (.ref it)) (λr s1=>∃u,r=some u/\
   wpAny (model P w) X.A (letOwnedTupleGo tg (.ref it) u) (λ_ s2=>∃x H',Inv X pins σ H' s2/\RelV x u/\J.yld i H x H'/\tn (i+1) s2.heap/\∀b∈fp,H' b=none) E s1) E s
 done:∀(X:Cx),X.prog=P->X.w=w->X.K=K->X.calm=true->∀(i:Nat) (pins:List (Addr×Obj)) (s:Shared) (σ:St) (H:Hp) (E:Value->Shared->Prop),Inv X pins σ H s->(∀b∈fp,yT X pins H b)->tn i s.heap->J.stop i H->
  wpAny (model P w) X.A (pyNext (.ref it)) (λr s1=>r=none/\Inv X pins σ H s1) E s
 self:∀(A:Around) (i:Nat) (s:Shared) (Q:Value->Shared->Prop) (E:Value->Shared->Prop),tn i s.heap->Q (.ref it) s->wpAny (model P w) A (pyIter (.ref it)) Q E s
abbrev TI :=St->Hp->(It->Hp->Prop)->Prop
def PIE (X:Cx)(pins:List (Addr×Obj))(σ:St)(tg:Expr)(R:It->Hp->Prop)(a:Value)(s2:Shared):Prop:=
 ∃(it:Addr) (fp:List Addr) (tn:Nat->Heap->Prop) (J:It) (H':Hp),a=.ref it/\Inv X pins σ H' s2/\Turn X.prog X.w X.K tg J fp it tn/\tn 0 s2.heap/\(∀b∈fp,yT X pins H' b)/\R J H'
def PI (X:Cx)(tg iter:Expr)(a:TI):Prop:=
 ∀(pins:List (Addr×Obj)) (s:Shared) (σ:St) (H:Hp) (R:It->Hp->Prop),Inv X pins σ H s->a σ H R->
  wpAny (model X.prog X.w) X.A (eval iter X.env) (λv s1=>wpAny (model X.prog X.w) X.A (pyIter v) (PIE X pins σ tg R) X.xe s1) X.xe s
theorem kZ {M:Model}{A:Around}{E:Value->Shared->Prop}{s:Shared}{tg:Expr}{it:Addr}{u:Value}{o:Obj}{n:String}{vs:Array Value}{Q:Unit->Shared->Prop}(c:s.heap.get? it=some o)(b:o.cls=.type n)(hd:o.data=.fields vs)
  (hn:["enumerate","zip","dict_itemiterator","dict_reverseitemiterator","odict_iterator","itertools.zip_longest","itertools.pairwise"].contains n=false) (a:Q () s):wpAny M A (letOwnedTupleGo tg (.ref it) u) Q E s:=by
 unfold letOwnedTupleGo;cases tg<;>first
  |exact zI6 a
  |(cases u<;>first
    |exact zI6 a
    |(refine zI3 (wpAny_load c ?_)
      rw[b,hd];show wpAny M A (if(["enumerate","zip","dict_itemiterator","dict_reverseitemiterator","odict_iterator","itertools.zip_longest","itertools.pairwise"].contains n&&vs[0]? == some (rawInt _))=true then _ else _) Q E s;rw[if_neg (by intro h;rw[hn,zW1]at h;cases h)];exact zI6 a))
def Itl (K:PySem.W.Frag)(a:Addr):It:=
 ⟨λi H=>∃xs x,SqL K H a xs/\xs[i]?=some x,λi H x H'=>H'=H/\∀xs,SqL K H a xs->xs[i]?=some x,λi H=>∃xs,SqL K H a xs/\xs.length<=i⟩
def Itr (lo:Int)(n:Nat):It:=⟨λi _=>i<n,λi H x H'=>H'=H/\x=.int (lo+i),λi _=>n<=i⟩
theorem jo {P:Program}{w:World}{K:PySem.W.Frag}{tg:Expr}(a it:Addr):Turn P w K tg (Itl K a) [it] it (λi h=>h.IsListIter it a i) where
 mem:=by simp
 obj:=λi h st b hb=>by
  have e:b=it:=by simpa using hb
  subst e;obtain⟨o,e,c,d⟩:=st;exact⟨o,e,λv z=>by rw[d]at z;cases z⟩
 keep:=λi h h' st k=>st.at λo e=>k it (by simp) o e
 item:=by
  intro X g hw n q i pins s σ H E I hf st hg;subst g hw n;obtain⟨xs,x,hq,f⟩:=hg;obtain⟨its,m,p,hz⟩:=I.list hq;obtain⟨u,r,y⟩:=m.get f;obtain⟨f0,f1,f2,j,f4,l⟩:=hf it (by simp);refine wpAny_pyNext_list_item st p.isList (x:=u) (by simpa using r) λh' st' sb=>?_;have A:Inv X pins σ H {s with heap:=h'}:=I.turned (t':=s.toks) (λb o hb e=>(sb.2 b hb).trans e) f0 f1 j f4 l;obtain⟨o,e,c,d⟩:=id st';exact⟨u,rfl,kZ (s:={s with heap:=h'}) e c d (by decide) ⟨x,H,A,y,⟨rfl,λys hy=>by rw[I.list_inj hy hq];exact f⟩,st',λb hb=>(hf b hb).1⟩⟩
 done:=by
  intro X g hw n q i pins s σ H E I hf st hg;subst g hw n;obtain⟨xs,hq,f⟩:=hg;obtain⟨its,m,p,hz⟩:=I.list hq;obtain⟨f0,f1,f2,j,f4,l⟩:=hf it (by simp);have B:=m.length;exact wpAny_pyNext_list_end (I.ok.hd q) st p.isList (by simp;exact zK1 (zL7 B.symm) f) λh' t=>⟨rfl,I.turned (t':=s.toks) (λb o hb e=>t b o hb e) f0 f1 j f4 l⟩
 self:=λ_ _ _ _ _ st h=>wpAny_pyIter_listiter st h
theorem mi {P:Program}{w:World}{K:PySem.W.Frag}{tg:Expr}(it:Addr)(lo:Int)(n:Nat):Turn P w K tg (Itr lo n) [it] it (λi h=>IsRangeIter h it (lo+(i:Nat)*1) ((n:Int)-(i:Nat)) 1) where
 mem:=by simp
 obj:=λi h st b hb=>by
  have e:b=it:=by simpa using hb
  subst e;exact⟨_,st,λv z=>by
   have m:Data.fields _=Data.cell v:=z;cases m⟩
 keep:=λi h h' st k=>k it (by simp) _ st
 item:=by
  intro X a hw g f i pins s σ H E I hf st hg;subst a hw g;obtain⟨f0,f1,f2,c,f4,d⟩:=hf it (by simp);have W:=Walks.range (prog:=X.prog) (w:=X.w) (I.ok.hd f) it lo 1 n;refine W.item i s _ _ hg st λv h' tk l st' q=>?_;obtain⟨t,rfl⟩:=l;have p:Inv X pins σ H {s with heap:=h',toks:=tk}:=I.turned (λb o hb e=>q b o (by simpa using hb) e) f0 f1 c f4 d;refine⟨_,rfl,kZ (s:={s with heap:=h',toks:=tk}) (n:="range_iterator") st' rfl rfl (by decide) ⟨.int (lo+i),H,p,⟨t,?_⟩,⟨rfl,rfl⟩,st',λb hb=>(hf b hb).1⟩⟩;rw[Int.mul_one]
 done:=by
  intro X a hw g f i pins s σ H E I hf st hg;subst a hw g;obtain⟨f0,f1,f2,c,f4,d⟩:=hf it (by simp);exact wpAny_pyNext_range_end (I.ok.hd f) st (by have:n<=i:=hg;exact zC7 this) λh' j=>⟨rfl,I.turned (t':=s.toks) (λb o hb e=>j b o hb e) f0 f1 c f4 d⟩
 self:=λ_ _ _ _ _ st h=>wpAny_pyIter_rangeiter st h
section
variable {X:Cx}{tg:Expr}
def zD7 (K:PySem.W.Frag)(b:TE):TI:=λσ H R=>b σ H λx H1=>∃a,x=.ref a/\(∃xs,SqL K H1 a xs)/\R (Itl K a) H1
theorem lH {l:Expr}{f:TE}(g:PE X l f):PI X tg l (zD7 X.K f):=by
 intro pins s σ H R I h;refine thn (g pins s σ H _ I h) λv s1 c=>?_;obtain⟨x,H1,d,j,i⟩:=c;obtain⟨a,e,⟨xs,hq⟩,q⟩:=i;subst e;cases j;obtain⟨its,k,p,hz⟩:=d.list hq;refine zX5 p.isList ?_;refine⟨s1.heap.objs.size,[s1.heap.objs.size],_,_,H1,rfl,d.kept (t':=s1.toks) λb o e=>zI4 _ e,jo a _,⟨_,zJ4 _ rfl,rfl,rfl⟩,λb hb=>?_,q⟩;have e:b=s1.heap.objs.size:=by simpa using hb
 subst e;exact d.fpOk (zJ0 _) (d.hok.fresh (zJ0 _))
theorem oJ {pins:List (Addr×Obj)}{σ:St}{H:Hp}{s:Shared}{R:It->Hp->Prop}{E:Value->Shared->Prop}{lo hi:Int}{t u v:Tok}{tk:Nat}(I:Inv X pins σ H s)(c:-(2 ^ 62)<=lo)(d:lo<2 ^ 62)(f:-(2 ^ 62)<=hi)(h:hi<2 ^ 62)
  (q:R (Itr lo (hi-lo).toNat) H):wpAny (model X.prog X.w) X.A (pyIter (.ref s.heap.objs.size)) (PIE X pins σ tg R) E {s with heap:=s.heap.push {cls:=.type "range",data:=.fields #[.int lo t,.int hi u,.int 1 v]},toks:=tk}:=by
 refine wpAny_pyIter_range (IsRange.new ..) (small_one c d f h) ?_;have a:Inv X pins σ H {s with heap:=s.heap.push {cls:=.type "range",data:=.fields #[.int lo t,.int hi u,.int 1 v]},toks:=tk}:=I.kept λb o e=>zI4 _ e;refine⟨(s.heap.push {cls:=.type "range",data:=.fields #[.int lo t,.int hi u,.int 1 v]}).objs.size,[(s.heap.push {cls:=.type "range",data:=.fields #[.int lo t,.int hi u,.int 1 v]}).objs.size],_,_,H,rfl,
  a.kept (t':=tk) λb o e=>zI4 _ e,mi _ lo (hi-lo).toNat,?_,λb hb=>?_,q⟩
 ·have e1:lo+((0:Nat):Int)*1=lo:=by simp
  have g:(((hi-lo).toNat:Nat):Int)-((0:Nat):Int)=Builtin.Range.rangeSize lo hi 1:=by rw[rangeSize_one];split<;>lia
  show IsRangeIter _ _ (lo+((0:Nat):Int)*1) ((((hi-lo).toNat:Nat):Int)-((0:Nat):Int)) 1;rw[e1,g];exact zJ4 _ rfl
 ·have e:b=(s.heap.push {cls:=.type "range",data:=.fields #[.int lo t,.int hi u,.int 1 v]}).objs.size:=by simpa using hb
  subst e;exact a.fpOk (zJ0 _) (a.hok.fresh (zJ0 _))
def zA8 (a:TA):TI:=λσ H R=>a σ H λvs H1=>∃j:Int,vs=[.int j]/\-(2 ^ 62)<=j/\j<2 ^ 62/\R (Itr 0 j.toNat) H1
def zy5 (a:TA):TI:=λσ H R=>a σ H λvs H1=>∃i j:Int,vs=[.int i,.int j]/\(-(2 ^ 62)<=i/\i<2 ^ 62/\-(2 ^ 62)<=j/\j<2 ^ 62)/\R (Itr i (j-i).toNat) H1
theorem iW {a:Expr}{d:TA}{p pos:Pos}(hg:Gl X "range")(hm:X.mg "range"=none)(ha:PA X [a] d)(k:starEach [a] X.env=[(false,eval a X.env)]:=by rfl):PI X tg (.Call (.Name "range" p) [a] [] pos) (zA8 d):=by
 intro pins s σ H R I h;refine Call_ (xF I hg hm boot_range (zP3 (thn (ha pos pins s σ H _ I h) λus s1 b=>?_) k rfl));obtain⟨vs,H1,f,l,c⟩:=b;obtain⟨j,e,c,i,q⟩:=c;subst e;cases l with
 |cons r g=>
  cases g;obtain⟨t,rfl⟩:=r;exact call_range_1 (oJ f (by decide) (by decide) c i (by simpa using q))
theorem jQ {a b:Expr}{g:TA}{p pos:Pos}(hg:Gl X "range")(hm:X.mg "range"=none)(ha:PA X [a,b] g)(n:starEach [a,b] X.env=[(false,eval a X.env),(false,eval b X.env)]:=by rfl)(c:starEach [b] X.env=[(false,eval b X.env)]:=by rfl):
  PI X tg (.Call (.Name "range" p) [a,b] [] pos) (zy5 g):=by
 intro pins s σ H R I h;refine Call_ (xF I hg hm boot_range (zP3 (thn (ha pos pins s σ H _ I h) λus s1 ⟨vs,H1,v,o,f⟩=>?_) (by rw[n,c]) (by rw[c];rfl)));obtain⟨i,j,e,⟨f,u,k,m⟩,q⟩:=f;subst e;cases o with
 |cons r d=>
  cases d with
  |cons l d=>
   cases d;obtain⟨t,rfl⟩:=r;obtain⟨t',rfl⟩:=l;exact call_range_2 (oJ v f u k m q)
def zH3 (e:TI)(g:TG)(c:TS):TS:=λD σ H=>e σ H λJ H1=>∃W:Nat->Nat->St->Hp->Prop,(∃m,W 0 m σ H1)/\∀i m σ H,W i m σ H->
 (J.stop i H/\D.nx σ H)\/(J.go i H/\∃N:St->Hp->Prop,(∀a H',N a H'->∃b,b<m/\W (i+1) b a H')/\∀x H',J.yld i H x H'->g x σ H' λσ2 d=>c {D with nx:=N,ct:=N,bk:=D.nx} σ2 d)
def sf (fp:List Addr)(h:Heap):List (Addr×Obj):=fp.filterMap λb=>(h.get? b).map λo=>(b,o)
theorem xR {fp:List Addr}{h:Heap}{b:Addr}{o:Obj}(hb:b∈fp)(e:h.get? b=some o):(b,o)∈sf fp h:=List.mem_filterMap.mpr ⟨b,hb,by rw[e];rfl⟩
theorem ip {fp:List Addr}{h:Heap}{p:Addr×Obj}(c:p∈sf fp h):p.1∈fp/\h.get? p.1=some p.2:=by
 obtain⟨b,hb,e⟩:=List.mem_filterMap.mp c;cases q:h.get? b with
 |none=>rw[q]at e;cases e
 |some o=>
  rw[q]at e;have a:(b,o)=p:=zM7 e;subst a;exact⟨hb,q⟩
theorem Inv.pinned {pins:List (Addr×Obj)}{σ:St}{H:Hp}{s:Shared}{fp:List Addr}(I:Inv X pins σ H s)(hf:∀b∈fp,yT X pins H b)(c:∀b∈fp,∃o,s.heap.get? b=some o/\∀v,o.data≠.cell v):Inv X (pins++sf fp s.heap) σ H s:=
 I.pins_of λp f=>(zK6.mp f).elim (λz=>I.pin p (zK4 _ z)) λz=>by
  obtain⟨hb,e⟩:=ip z;obtain⟨f0,f1,f2,_⟩:=hf p.1 hb;obtain⟨o,a,d⟩:=c p.1 hb;rw[e]at a;cases a;exact⟨e,f0,f1,f2,d⟩
theorem Inv.unpinned {pins pl:List (Addr×Obj)}{σ:St}{H:Hp}{s:Shared}(I:Inv X (pins++pl) σ H s):Inv X pins σ H s:=I.pins_of λp a=>I.pin p (zK4 _ (zL1 _ a))
theorem cH {iter:Expr}{body:List Stmt}{Z:TI}{g:TG}{Y:TS}{pos:Pos}(F:PassesOwn (model X.prog X.w) X.A X.env X.xe)(V:X.calm=true)(hi:PI X tg iter Z)(hg:PG X tg g)(hb:PSs X body Y)
  (hs:∀x,foldedSetIterable iter X.env x=pure x:=by intro _;rfl):PS X (.For tg iter body [] pos) (zH3 Z g Y):=by
 intro pins s σ H D I h;refine wpAny_For (thn (hi pins s σ H _ I h) λv s1 h1=>thn h1 λa0 s2 h2=>?_) hs;obtain⟨it,fp,tn,J,H2,e,I2,T,M,f2,W,⟨m0,w0⟩,turn⟩:=h2;subst e
 -- what stays true of the iterator's objects through the loop
 have l:∀{H':Hp},(∀b∈fp,H' b=none)->∀b∈fp,yT X pins H' b:=λhn b hb=>⟨hn b hb,(f2 b hb).2⟩;refine codeAny_forLoop_any (λn s'=>∃i j H',Inv X pins j H' s'/\tn i s'.heap/\(∀b∈fp,H' b=none)/\W i n j H') ?_ m0 ⟨0,σ,H2,I2,M,λb hb=>(f2 b hb).1,w0⟩;rintro n s3 ⟨i,k,L,U,y,G,w3⟩;rcases turn i n k L w3 with⟨stop,qn⟩|⟨go,N,hN,step⟩
 ·refine zZ3 F (thn (T.done X rfl rfl rfl V i pins s3 k L X.xe U (l G) y stop) λr s4 z=>?_);obtain⟨hr,I4⟩:=z;subst hr;exact wpAny_execs_nil ⟨k,L,I4,qn⟩
 ·refine zZ3 F (thn (T.item X rfl rfl rfl V i pins s3 k L X.xe U (l G) y go) λr s4 E=>?_);obtain⟨u,hr,h4⟩:=E;subst hr;refine zZ3 F (thn h4 λ_ s5 B=>?_);obtain⟨x,S,I5,r5,y5,t,O⟩:=B;have P:=I5.pinned (l O) (T.obj _ _ t);refine zZ3 F (thn (hg _ s5 k S x u _ P r5 (step x S y5)) λ_ s6 C=>?_);obtain⟨Q,H6,I6,q6⟩:=C;refine zZ3 F (thn (hb _ s6 Q H6 _ I6 q6) λf R q=>?_);have again:∀{a:St} {c:Hp},Inv X (pins++sf fp s5.heap) a c R->N a c->∃m,m<n/\∃i j H',Inv X pins j H' R/\tn i R.heap/\(∀b∈fp,H' b=none)/\W i m j H':=λ{a c} p K=>by
   obtain⟨m',hm,w7⟩:=hN a c K;refine⟨m',hm,i+1,a,c,p.unpinned,T.keep _ _ _ t λb hb o e=>(p.pin (b,o) (zK4 _ (zK4 _ (xR hb e)))).1,λb hb=>?_,w7⟩;obtain⟨o,e,d⟩:=T.obj _ _ t b hb;exact(p.pin (b,o) (zK4 _ (zK4 _ (xR hb e)))).2.1
  cases f with
  |next=>obtain⟨a,c,p,K⟩:=q;exact again p K
  |cont=>obtain⟨a,c,p,K⟩:=q;exact again p K
  |brk=>obtain⟨a,c,p,q⟩:=q;exact⟨a,c,p.unpinned,q⟩
  |ret v=>obtain⟨x7,a,c,p,r7,q⟩:=q;exact⟨x7,a,c,p.unpinned,r7,q⟩
end
abbrev R2 :=V->V->Hp->VK->Prop
def OpR (X:Cx)(f:Value->Value->Sem Value)(r:R2):Prop:=
 ∀(pins:List (Addr×Obj)) (s:Shared) (σ:St) (H:Hp) (x y:V) (v u:Value) (Q:VK),Inv X pins σ H s->RelV x v->RelV y u->r x y H Q->
  wpAny (model X.prog X.w) X.A (f v u) (EP X pins σ Q) X.xe s
def UnR (X:Cx)(f:Value->Sem Value)(r:V->Hp->VK->Prop):Prop:=
 ∀(pins:List (Addr×Obj)) (s:Shared) (σ:St) (H:Hp) (x:V) (v:Value) (Q:VK),Inv X pins σ H s->RelV x v->r x H Q->
  wpAny (model X.prog X.w) X.A (f v) (EP X pins σ Q) X.xe s
def xx (X:Cx)(f:Value)(r:List V->Hp->VK->Prop):Prop:=
 ∀(pins:List (Addr×Obj)) (s:Shared) (σ:St) (H:Hp) (xs:List V) (us:List Value) (Q:VK),Inv X pins σ H s->Vals xs us->r xs H Q->
  wpAny (model X.prog X.w) X.A (call f us) (EP X pins σ Q) X.xe s
def zG8 (X:Cx)(r:V->Hp->(Bool->Hp->Prop)->Prop):Prop:=
 ∀(pins:List (Addr×Obj)) (s:Shared) (σ:St) (H:Hp) (x:V) (v:Value) (Q:Bool->Hp->Prop),Inv X pins σ H s->RelV x v->r x H Q->
  wpAny (model X.prog X.w) X.A (truthy v) (TP X pins σ Q) X.xe s
def tOp (r:R2)(a b:TE):TE:=λσ H Q=>a σ H λx H1=>b σ H1 λy c=>r x y c Q
def tUn (r:V->Hp->VK->Prop)(a:TE):TE:=λσ H Q=>a σ H λx H1=>r x H1 Q
def rI (C:Int->Int->Prop)(g:Int->Int->V):R2:=λx y H Q=>∃i j,x=.int i/\y=.int j/\C i j/\Q (g i j) H
def rI0 (g:Int->Int->V):R2:=λx y H Q=>∃i j,x=.int i/\y=.int j/\Q (g i j) H
def rU (g:Int->V):V->Hp->VK->Prop:=λx H Q=>∃i,x=.int i/\Q (g i) H
section
variable {X:Cx}{a b c:Expr}{ta tb tc:TE}{pos:Pos}
theorem zt8 (ha:PE X a ta)(hb:PE X b tb){pins:List (Addr×Obj)}{s:Shared}{σ:St}{H:Hp}{R:V->V->Hp->Prop}(I:Inv X pins σ H s)
  (h:ta σ H λx H1=>tb σ H1 λy d=>R x y d) {Q:Value->Shared->Prop} {f:Value->Value->Sem Value}
  (hf:∀v u s2 x y d,Inv X pins σ d s2->RelV x v->RelV y u->R x y d->wpAny (model X.prog X.w) X.A (f v u) Q X.xe s2):
  wpAny (model X.prog X.w) X.A (eval a X.env) (λv e=>wpAny (model X.prog X.w) X.A (eval b X.env) (λu i=>wpAny (model X.prog X.w) X.A (f v u) Q X.xe i) X.xe e) X.xe s:=by
 refine thn (ha pins s σ H _ I h) λv s1 g=>?_;obtain⟨x,H1,k,o,n⟩:=g;refine thn (hb pins s1 σ H1 _ k n) λu s2 j=>?_;obtain⟨y,d,m,l,p⟩:=j;exact hf v u s2 x y d m o l p
theorem xf {op:Operator}{r:R2}(d:OpR X (binaryOp op) r)(ha:PE X a ta)(hb:PE X b tb):PE X (.BinOp a op b pos) (tOp r ta tb):=by
 intro pins s σ H Q I h;exact wpAny_BinOp (zt8 ha hb I h λv u s2 x y g f i e q=>d pins s2 σ g x y v u Q f i e q)
theorem zg4 {op:UnaryOp}{r:V->Hp->VK->Prop}(f:UnR X (unaryOp op) r)(ha:PE X a ta):PE X (.UnaryOp op a pos) (tUn r ta):=by
 intro pins s σ H Q I h;exact UnaryOp_ (thn (ha pins s σ H _ I h) λv s1 d=>by obtain⟨x,H1,e,i,g⟩:=d;exact f pins s1 σ H1 x v Q e i g)
theorem opI {f:Value->Value->Sem Value}{C:Int->Int->Prop}{g:Int->Int->Int}
  (rule:∀(i j:Int) (t u:Tok) (s:Shared) (Q:Value->Shared->Prop) (E:Value->Shared->Prop),C i j->Q (.int (g i j) s.toks) {s with toks:=s.toks+1}->wpAny (model X.prog X.w) X.A (f (.int i t) (.int j u)) Q E s):
  OpR X f (rI C λi j=>.int (g i j)):=by
 intro pins s σ H x y v u Q I k e h;obtain⟨i,j,rfl,rfl,d,q⟩:=h;obtain⟨t,rfl⟩:=k;obtain⟨t',rfl⟩:=e;exact rule i j t t' s _ _ d ⟨.int (g i j),H,I.tok _,⟨_,rfl⟩,q⟩
theorem zw3 {f:Value->Value->Sem Value}{g:Int->Int->Int}
  (rule:∀(i j:Int) (t u:Tok) (s:Shared) (Q:Value->Shared->Prop) (E:Value->Shared->Prop),Q (.int (g i j) s.toks) {s with toks:=s.toks+1}->wpAny (model X.prog X.w) X.A (f (.int i t) (.int j u)) Q E s):
  OpR X f (rI0 λi j=>.int (g i j)):=by
 intro pins s σ H x y v u Q I e d h;obtain⟨i,j,rfl,rfl,q⟩:=h;obtain⟨t,rfl⟩:=e;obtain⟨t',rfl⟩:=d;exact rule i j t t' s _ _ ⟨.int (g i j),H,I.tok _,⟨_,rfl⟩,q⟩
theorem bN {f:Value->Value->Sem Value}{g:Int->Int->Bool}
  (rule:∀(i j:Int) (t u:Tok) (s:Shared) (Q:Value->Shared->Prop) (E:Value->Shared->Prop),Q (.bool (g i j)) s->wpAny (model X.prog X.w) X.A (f (.int i t) (.int j u)) Q E s):
  OpR X f (rI0 λi j=>.bl (g i j)):=by
 intro pins s σ H x y v u Q I e d h;obtain⟨i,j,rfl,rfl,q⟩:=h;obtain⟨t,rfl⟩:=e;obtain⟨t',rfl⟩:=d;exact rule i j t t' s _ _ ⟨.bl (g i j),H,I,rfl,q⟩
def zn8 (i j:Int):Prop:=0<=j/\j<=1000000/\i.natAbs<2 ^ 64
def zb5 (i j:Int):Prop:=(-(2 ^ 64)<i/\i<2 ^ 64)\/(-(2 ^ 64)<j/\j<2 ^ 64)
theorem zb5.ok {i j:Int}(h:zb5 i j):IntMulOk i j:=by
 rcases h with⟨d,e⟩|⟨d,e⟩
 ·exact .of_left (intBits_le_64 d e)
 ·exact .of_right (intBits_le_64 d e)
theorem qu :OpR X (binaryOp .Add) (rI0 λi j=>.int (i+j)):=zw3 λ_ _ _ _ _ _ _ q=>add_int q
theorem zl2 :OpR X (binaryOp .Sub) (rI0 λi j=>.int (i-j)):=zw3 λ_ _ _ _ _ _ _ q=>sub_int q
theorem qG :OpR X (binaryOp .Mult) (rI zb5 λi j=>.int (i*j)):=opI λ_ _ _ _ _ _ _ d q=>mul_int q d.ok
theorem sC :OpR X (binaryOp .Mod) (rI (λ_ j=>0<j) λi j=>.int (i % j)):=opI λi j _ _ _ _ _ d q=>by
 have e:(0:Int)<j:=d;exact mod_int' (Int.ne_of_gt d) (by rw[Int.fmod_eq_emod_of_nonneg i (zW2 d)];exact q)
theorem zl9 :OpR X (binaryOp .Pow) (rI zn8 λi j=>.int (i ^ j.toNat)):=opI λ_ _ _ _ _ _ _ d q=>pow_int_small d.1 d.2.1 d.2.2 q
theorem unI {f:Value->Sem Value}{g:Int->Int}
  (rule:∀(i:Int) (t:Tok) (s:Shared) (Q:Value->Shared->Prop) (E:Value->Shared->Prop),Q (.int (g i) s.toks) {s with toks:=s.toks+1}->wpAny (model X.prog X.w) X.A (f (.int i t)) Q E s):
  UnR X f (rU λi=>.int (g i)):=by
 intro pins s σ H x v Q I d h;obtain⟨i,rfl,q⟩:=h;obtain⟨t,rfl⟩:=d;exact rule i t s _ _ ⟨.int (g i),H,I.tok _,⟨_,rfl⟩,q⟩
theorem dw :UnR X (unaryOp .USub) (rU λi=>.int (-i)):=unI λ_ _ _ _ _ q=>neg_int q
end
def zB1 :V->V->Bool
 |.non,.non=>true|.non,.int _=>true|.int _,.non=>true|.non,.bl _=>true|.bl _,.non=>true|.non,.str _=>true|.str _,.non=>true
 |.int _,.int _=>true|.bl _,.bl _=>true|.str _,.str _=>true|.byt _,.byt _=>true
 |.int _,.str _=>true|.str _,.int _=>true|.bl _,.str _=>true|.str _,.bl _=>true
 |_,_=>false
def rEq :R2:=λx y H Q=>zB1 x y=true/\Q (.bl (decide (x=y))) H
def rNe :R2:=λx y H Q=>zB1 x y=true/\Q (.bl (!decide (x=y))) H
theorem kf {i j:Int}:decide (V.int i=V.int j)=(i == j):=by
 rw[z26];simp
theorem fe {i j:Bool}:decide (V.bl i=V.bl j)=(i == j):=by
 rw[z26];simp
theorem jg {i j:Str}:decide (V.str i=V.str j)=(i == j):=by
 rw[z26];simp
theorem kL {i j:Array UInt8}:decide (V.byt i=V.byt j)=(i.toList == j.toList):=by
 rw[z26];cases i;cases j;simp
section
variable {X:Cx}{a b c:Expr}{ta tb tc:TE}{pos:Pos}
theorem zA {pins:List (Addr×Obj)}{σ:St}{H:Hp}{s:Shared}{Q:VK}{k d:Bool}(I:Inv X pins σ H s)(q:Q (.bl k) H)(e:k=d):EP X pins σ Q (.bool d) s:=by
 subst e;exact⟨.bl k,H,I,rfl,q⟩
theorem dh :OpR X (compareOp .Eq) rEq:=by
 intro pins s σ H x y v u Q I f d h;obtain⟨e,q⟩:=h;cases x with
 |non=>
  cases f;cases y with
  |non=>cases d;exact PySem.EqNone.eq_none_none (zA I q (by simp))
  |bl j=>cases d;exact PySem.EqNone.eq_none_bool (zA I q (by simp))
  |int j=>obtain⟨t',rfl⟩:=d;exact PySem.EqNone.eq_none_int (zA I q (by simp))
  |str j=>obtain⟨t',rfl⟩:=d;exact PySem.EqNone.eq_none_str (zA I q (by simp))
  |_=>exact absurd (show false=true from e) zL3
 |bl i=>
  cases f;cases y with
  |non=>cases d;exact PySem.EqNone.eq_bool_none (zA I q (by simp))
  |bl j=>cases d;exact eq_bool (zA I q fe)
  |str j=>obtain⟨t',rfl⟩:=d;exact PySem.EqMixed.eq_bool_str (zA I q (by simp))
  |_=>exact absurd (show false=true from e) zL3
 |int i=>
  obtain⟨t,rfl⟩:=f;cases y with
  |non=>cases d;exact PySem.EqNone.eq_int_none (zA I q (by simp))
  |int j=>obtain⟨t',rfl⟩:=d;exact eq_int (zA I q kf)
  |str j=>obtain⟨t',rfl⟩:=d;exact PySem.EqMixed.eq_int_str (zA I q (by simp))
  |_=>exact absurd (show false=true from e) zL3
 |str i=>
  obtain⟨t,rfl⟩:=f;cases y with
  |non=>cases d;exact PySem.EqNone.eq_str_none (zA I q (by simp))
  |bl j=>cases d;exact PySem.EqMixed.eq_str_bool (zA I q (by simp))
  |int j=>obtain⟨t',rfl⟩:=d;exact PySem.EqMixed.eq_str_int (zA I q (by simp))
  |str j=>obtain⟨t',rfl⟩:=d;exact eq_str (zA I q jg)
  |_=>exact absurd (show false=true from e) zL3
 |byt i=>
  obtain⟨t,rfl⟩:=f;cases y with
  |byt j=>obtain⟨t',rfl⟩:=d;exact PySem.W.eq_bytes (zA I q kL)
  |_=>exact absurd (show false=true from e) zL3
 |_=>cases y<;>exact absurd (show false=true from e) zL3
theorem zA6 :OpR X (compareOp .NotEq) rNe:=by
 intro pins s σ H x y v u Q I f d h;obtain⟨e,q⟩:=h;cases x with
 |non=>
  cases f;cases y with
  |non=>cases d;exact PySem.EqNone.ne_none_none (zA I q (by simp))
  |bl j=>cases d;exact PySem.EqNone.ne_none_bool (zA I q (by simp))
  |int j=>obtain⟨t',rfl⟩:=d;exact PySem.EqNone.ne_none_int (zA I q (by simp))
  |str j=>obtain⟨t',rfl⟩:=d;exact PySem.EqNone.ne_none_str (zA I q (by simp))
  |_=>exact absurd (show false=true from e) zL3
 |bl i=>
  cases f;cases y with
  |non=>cases d;exact PySem.EqNone.ne_bool_none (zA I q (by simp))
  |bl j=>cases d;exact ne_bool (zA I q (congrArg not fe))
  |str j=>obtain⟨t',rfl⟩:=d;exact PySem.EqMixed.ne_bool_str (zA I q (by simp))
  |_=>exact absurd (show false=true from e) zL3
 |int i=>
  obtain⟨t,rfl⟩:=f;cases y with
  |non=>cases d;exact PySem.EqNone.ne_int_none (zA I q (by simp))
  |int j=>obtain⟨t',rfl⟩:=d;exact ne_int (zA I q (congrArg not kf))
  |str j=>obtain⟨t',rfl⟩:=d;exact PySem.EqMixed.ne_int_str (zA I q (by simp))
  |_=>exact absurd (show false=true from e) zL3
 |str i=>
  obtain⟨t,rfl⟩:=f;cases y with
  |non=>cases d;exact PySem.EqNone.ne_str_none (zA I q (by simp))
  |bl j=>cases d;exact PySem.EqMixed.ne_str_bool (zA I q (by simp))
  |int j=>obtain⟨t',rfl⟩:=d;exact PySem.EqMixed.ne_str_int (zA I q (by simp))
  |str j=>obtain⟨t',rfl⟩:=d;exact ne_str (zA I q (congrArg not jg))
  |_=>exact absurd (show false=true from e) zL3
 |byt i=>
  obtain⟨t,rfl⟩:=f;cases y with
  |byt j=>obtain⟨t',rfl⟩:=d;exact PySem.W.ne_bytes (zA I q (congrArg not kL))
  |_=>exact absurd (show false=true from e) zL3
 |_=>cases y<;>exact absurd (show false=true from e) zL3
theorem zd7 :OpR X (compareOp .Lt) (rI0 λi j=>.bl (decide (i<j))):=bN λ_ _ _ _ _ _ _ q=>lt_int q
theorem om :OpR X (compareOp .LtE) (rI0 λi j=>.bl (decide (i<=j))):=bN λ_ _ _ _ _ _ _ q=>le_int q
theorem ze5 :OpR X (compareOp .Gt) (rI0 λi j=>.bl (decide (j<i))):=bN λ_ _ _ _ _ _ _ q=>gt_int q
theorem zw8 :OpR X (compareOp .GtE) (rI0 λi j=>.bl (decide (j<=i))):=bN λ_ _ _ _ _ _ _ q=>ge_int q
theorem gH :OpR X (compareOp .Is) (λx y H Q=>y=.non/\Q (.bl (decide (x=.non))) H):=by
 intro pins s σ H x y v u Q I d e h;obtain⟨rfl,q⟩:=h;cases e;refine is_none_gen (zA I q ?_);cases x<;>first
  |(cases d;rfl)
  |(obtain⟨t,rfl⟩:=d;rfl)
theorem bq :OpR X (compareOp .IsNot) (λx y H Q=>y=.non/\Q (.bl (!decide (x=.non))) H):=by
 intro pins s σ H x y v u Q I d e h;obtain⟨rfl,q⟩:=h;cases e;refine isnot_none_gen (zA I q ?_);cases x<;>first
  |(cases d;rfl)
  |(obtain⟨t,rfl⟩:=d;rfl)
theorem yD (b:Expr){op:CmpOp}(h:op≠.In:=by decide)(d:op≠.NotIn:=by decide):behindInMarks op b=false:=by
 have e1:(op == CmpOp.In)=false:=by cases op<;>first|rfl|exact absurd rfl h
 have e:(op == CmpOp.NotIn)=false:=by cases op<;>first|rfl|exact absurd rfl d
 cases b<;>simp[behindInMarks,e1,e]
theorem qM {op:CmpOp}{r:R2}(d:OpR X (compareOp op) r)(ha:PE X a ta)(hb:PE X b tb)(hm:behindInMarks op b=false):PE X (.Compare a [op] [b] pos) (tOp r ta tb):=by
 intro pins s σ H Q I h;exact wpAny_Compare1 (zt8 ha hb I h λv u s2 x y g f i e q=>d pins s2 σ g x y v u Q f i e q) hm
def zi5 (t:TE):TT:=λσ H Q=>t σ H λx H'=>∃k,x=.bl k/\Q k H'
theorem lQ {op:CmpOp}{r:R2}(g:OpR X (compareOp op) r)(ha:PE X a ta)(hb:PE X b tb)(hm:behindInMarks op b=false):PT X (.Compare a [op] [b] pos) (zi5 (tOp r ta tb)):=by
 intro pins s σ H Q I h;refine wpAny_isTrue_Compare1 (thn (ha pins s σ H _ I h) λv s1 ⟨x,H1,d,p,o⟩=>thn (hb pins s1 σ H1 _ d o) λu s2 ⟨y,l,j,i,t⟩=>
  thn (g pins s2 σ l x y v u _ j p i t) λc s3 ⟨z,q,m,n,k,e,f⟩=>?_) hm
 subst e;cases n;exact zQ6 ⟨q,m,f⟩
def fj (r e:R2)(ta tb tc:TE):TE:=λσ H Q=>ta σ H λx H1=>tb σ H1 λy g=>r x y g λz d=>∃k,z=.bl k/\
 (if k=true then tc σ d λf h=>e y f h Q else Q (.bl false) d)
theorem cp {op f:CmpOp}{r j:R2}(p:OpR X (compareOp op) r)(g:OpR X (compareOp f) j)(ha:PE X a ta)(hb:PE X b tb)(J:PE X c tc)
  (hm:lastMarks [op,f] [b,c]=false:=by with_unfolding_all rfl):PE X (.Compare a [op,f] [b,c] pos) (fj r j ta tb tc):=by
 intro pins s σ H Q I h;refine Compare_chain (thn (ha pins s σ H _ I h) λv s1 ⟨x,H1,G,D,B⟩=>chain_link (thn (hb pins s1 σ H1 _ G B) λu s2 ⟨y,K,q,l,E⟩=>
  thn (p pins s2 σ K x y v u _ q D l E) λd s3 ⟨z,m,n,A,k,e,i⟩=>?_)) hm
 subst e;cases A;refine zQ6 ?_;cases k with
 |false=>exact ite_ff ⟨.bl false,m,n,rfl,i⟩
 |true=>exact ite_tt (chain_last (thn (J pins s3 σ m _ n i) λt s4 ⟨C,L,F,w,o⟩=>g pins s4 σ L y C u t Q F l w o))
theorem du {op f:CmpOp}{r j:R2}(w:OpR X (compareOp op) r)(g:OpR X (compareOp f) j)(ha:PE X a ta)(hb:PE X b tb)(O:PE X c tc)
  (hm:lastMarks [op,f] [b,c]=false:=by with_unfolding_all rfl):PT X (.Compare a [op,f] [b,c] pos) (zi5 (fj r j ta tb tc)):=by
 intro pins s σ H Q I h;refine isTrue_chain (thn (ha pins s σ H _ I h) λv s1 ⟨x,H1,N,J,F⟩=>test_link (thn (hb pins s1 σ H1 _ N F) λu s2 ⟨y,R,B,l,L⟩=>
  thn (w pins s2 σ R x y v u _ B J l L) λd s3 ⟨z,m,n,E,k,e,i⟩=>?_)) hm
 subst e;cases E;refine zQ6 ?_;cases k with
 |false=>
  obtain⟨U,A,t⟩:=i;cases A;exact ite_ff ⟨m,n,t⟩
 |true=>
  refine ite_tt (test_last (thn (O pins s3 σ m _ n i) λC s4 ⟨G,T,M,D,o⟩=>thn (g pins s4 σ T y G u C _ M l D o) λd' s5 ⟨V,p,P,S,W,K,q⟩=>?_));subst K;cases S;exact zQ6 ⟨p,P,q⟩
def zw9 (K:PySem.W.Frag)(x:V)(H:Hp)(k:Bool):Prop:=
 match x with
 |.non=>k=false
 |.bl b=>k=b
 |.int i=>k=(i != 0)
 |.str y=>y.length<=sizeLine/\k=((y.length:Int) != 0)
 |.byt y=>y.size<=sizeLine/\k=((y.size:Int) != 0)
 |.ref p=>(∃xs,SqL K H p xs/\k=!xs.isEmpty)\/(∃xs,SqT K H p xs/\k=!xs.isEmpty)\/∃kvs,H p=some (.dK kvs)/\k=!kvs.isEmpty
 |_=>False
theorem mD {d:Type}{kvs:List (d×V)}{vs:List (d×Value)}(r:KV kvs vs):(!vs.isEmpty)=!kvs.isEmpty:=by
 cases r<;>rfl
theorem sq {xs:List V}{its:List Value}(r:Vals xs its):(!its.toArray.isEmpty)=!xs.isEmpty:=by
 cases r<;>simp
theorem uo :(sizeLine:Nat)<2 ^ 63:=by rw[zO7];decide
theorem zl7 :zG8 X (λx H Q=>∃k,zw9 X.K x H k/\Q k H):=by
 intro pins s σ H x v Q I f h;obtain⟨k,e,q⟩:=h;have n:=uo;have g:sizeLine=16777216:=zO7;cases x with
 |non=>
  cases f;have d:k=false:=e;subst d;exact truthy_none ⟨H,I,q⟩
 |bl b=>
  cases f;have d:k=b:=e;subst d;exact zQ6 ⟨H,I,q⟩
 |int i=>
  obtain⟨t,rfl⟩:=f;have d:k=(i != 0):=e;subst d;exact PySem.P.truthy_int ⟨H,I,q⟩
 |str y=>
  obtain⟨t,rfl⟩:=f;obtain⟨hy,d⟩:y.length<=sizeLine/\k=((y.length:Int) != 0):=e;subst d;exact PySem.P.truthy_str (zB9 g hy) ⟨H,I.tok _,q⟩
 |byt y=>
  obtain⟨t,rfl⟩:=f;obtain⟨hy,d⟩:y.size<=sizeLine/\k=((y.size:Int) != 0):=e;subst d;exact PySem.W.truthy_bytes (zw4 g hy) ⟨H,I.tok _,q⟩
 |ref p=>
  cases f;have d:(∃xs,SqL X.K H p xs/\k=!xs.isEmpty)\/(∃xs,SqT X.K H p xs/\k=!xs.isEmpty)\/∃kvs,H p=some (.dK kvs)/\k=!kvs.isEmpty:=e;rcases d with⟨xs,j,d⟩|⟨xs,j,d⟩|⟨kvs,j,d⟩
  ·subst d;obtain⟨its,r,pl,hz⟩:=I.list j;have hlen:=r.length;exact wpAny_truthy_list pl.isList (by simp only[zK7];exact fq g hlen hz) ⟨H,I.tok _,by rw[sq r];exact q⟩
  ·subst d;obtain⟨its,r,pl,hz⟩:=I.tuple j;have hlen:=r.length;exact truthy_tuple pl (by simp only[zK7];exact fq g hlen hz) ⟨H,I.tok _,by rw[sq r];exact q⟩
  ·subst d;obtain⟨hz,l,vs,r,m⟩:kvs.length<=sizeLine/\(p == sysModules)=false/\∃vs,KV kvs vs/\s.heap.DictOf (yA X.prog X.w) p vs:=I.hok p _ j;have hlen:kvs.length=vs.length:=Paired.length r;exact wpAny_truthy_dict l m (fq g hlen hz) ⟨H,I.tok _,by rw[mD r];exact q⟩
 |_=>exact(show False from e).elim
theorem ck (ha:PE X a ta)(he:∀whole,isTrue a X.env whole=(do let v <-whole;standAt a.pos;holding [v] (truthy v))):
  PT X a (λσ H Q=>ta σ H λx H'=>∃k,zw9 X.K x H' k/\Q k H'):=by
 intro pins s σ H Q I h;exact isTrue_plain (thn (ha pins s σ H _ I h) λv s1 d=>by obtain⟨x,H1,e,g,f⟩:=d;exact zl7 pins s1 σ H1 x v Q e g f) (he _)
theorem vals1 {x:V}{us:List Value}(r:Vals [x] us):∃u,us=[u]/\RelV x u:=by
 cases r with
 |cons d e=>cases e;exact⟨_,rfl,d⟩
theorem vals2 {x y:V}{us:List Value}(r:Vals [x,y] us):∃u d,us=[u,d]/\RelV x u/\RelV y d:=by
 cases r with
 |cons f g=>
  cases g with
  |cons e h=>cases h;exact⟨_,_,rfl,f,e⟩
theorem iZ (e:X.calm=true):xx X (.builtin "max") (λxs H Q=>∃i j,xs=[.int i,.int j]/\Q (.int (if j > i then j else i)) H):=by
 intro pins s σ H xs us Q I r h;obtain⟨i,j,rfl,q⟩:=h;obtain⟨u,f,rfl,⟨t,rfl⟩,⟨t',rfl⟩⟩:=vals2 r;refine max_two_ints (I.ok.hd e) λh' tk k=>⟨_,H,I.kept k,?_,q⟩;by_cases d:j > i
 ·rw[if_pos d,if_pos d];exact⟨_,rfl⟩
 ·rw[if_neg d,if_neg d];exact⟨_,rfl⟩
theorem jq (e:X.calm=true):xx X (.builtin "min") (λxs H Q=>∃i j,xs=[.int i,.int j]/\Q (.int (if j<i then j else i)) H):=by
 intro pins s σ H xs us Q I r h;obtain⟨i,j,rfl,q⟩:=h;obtain⟨u,f,rfl,⟨t,rfl⟩,⟨t',rfl⟩⟩:=vals2 r;refine min_two_ints (I.ok.hd e) λh' tk k=>⟨_,H,I.kept k,?_,q⟩;by_cases d:j<i
 ·rw[if_pos d,if_pos d];exact⟨_,rfl⟩
 ·rw[if_neg d,if_neg d];exact⟨_,rfl⟩
end
structure nM (h:Heap)(x dx C:Addr)(mA:Str->Option Value):Prop where
 obj:h.get? x=some (PySem.W.instObj C dx)
 ns:h.Ns1 dx mA
 ne:dx≠x
theorem jj {h:Heap}{dx:Addr}{mA:Str->Option Value}(n:h.Ns1 dx mA):∃od,h.get? dx=some od/\∀name,PySem.W.lookIn name od=some (mA name):=by
 obtain⟨o,es,ep,c,hd,hk,_,hm⟩:=n;refine⟨o,c,λname=>?_⟩;have e:=hm name;unfold nsFind findBy at e;rw[<-Array.find?_toList]at e;unfold PySem.W.lookIn;rw[hd];dsimp only;split
 ·rename_i y q;rw[q]at e;exact congrArg some e
 ·rename_i q;rw[q]at e;have a:es.toList.any (·.refKey)=false:=by
   rw[List.any_eq_false];intro y hy;obtain⟨z,t,b⟩:=hk y (Array.mem_toList_iff.mp hy);simp[DictEntry.refKey,b]
  have d:¬es.toList.any (·.refKey)=true:=by rw[a];exact zL3
  rw[if_neg d];exact congrArg some e
theorem nM.look {h:Heap}{x dx C:Addr}{mA:Str->Option Value}(I:nM h x dx C mA):∃od,PySem.W.InstAt h x (PySem.W.instObj C dx) C (some od)/\∀name,PySem.W.lookIn name od=some (mA name):=
 let⟨od,ho,hl⟩:=jj I.ns
 ⟨od,⟨I.obj,rfl,rfl,ho⟩,hl⟩
section
variable {prog:Program}{w:World}{A:Around}{E:Value->Shared->Prop}{s:Shared}{K:PySem.W.Frag}{x dx C f:Addr}{mA:Str->Option Value}{name:Str}{v:Value}
theorem get_map {expr:Bool}{Q:Value->Shared->Prop}(X:K.In s.heap)(I:nM s.heap x dx C mA)(hg:PySem.W.plainGet K C name=true)(d:PySem.W.hasDictIn K C=true)
  (ha:PySem.W.findIn K (.ref C) name=some none) (c:mA name=some v) (a:PySem.W.handedIn v=true) (h:Q v {s with toks:=s.toks+1}):
  wpAny (model prog w) A (getAttr (.ref x) name expr) Q E s:=by
 obtain⟨od,J,b⟩:=I.look;exact PySem.W.get_value X J (z33 hg).1 (PySem.W.findObj_own d ha rfl (by rw[b,c])) a h
theorem ee {pl:Sem Bool}{Q:Value×List Value->Shared->Prop}(X:K.In s.heap)(I:nM s.heap x dx C mA)(hg:PySem.W.plainGet K C name=true)
  (hf:PySem.W.findIn K (.ref C) name=some (some (.ref f))) (c:PySem.W.isFn K (.ref f)=true) (b:mA name=none) (h:Q (.ref f,[.ref x]) s):
  wpAny (model prog w) A (getMethod (.ref x) name pl) Q E s:=by
 obtain⟨od,J,a⟩:=I.look;exact PySem.W.method_fn X J (z33 hg).1 (z33 hg).2 hf (zY1.mp c) (by show(PySem.W.lookIn name od).map (·.isSome)=some false;rw[a,b];rfl) h
theorem aj {ns:List Str}{Q:Unit->Shared->Prop}(X:K.In s.heap)(I:nM s.heap x dx C mA)
  (p:PySem.W.findIn K (.ref C) "__setattr__"=some (some (.builtin "object.__setattr__"))) (o:PySem.W.plainOver K C=true) (u:PySem.W.takerIn K C name=some none) (n:PySem.W.hasDictIn K C=true)
  (hw:PySem.Within mA ns) (i:ns.length<=sizeLine)
  (h:∀h',nM h' x dx C (λy=>if y=name then some v else mA y)->Heap.SameBut dx s.heap h'->Q () {s with heap:=h',toks:=s.toks+2}):
  wpAny (model prog w) A (setAttr (.ref x) name v) Q E s:=by
 obtain⟨od,J,z⟩:=I.look;refine PySem.W.set_plain X J p (PySem.W.osa_open (s:={s with toks:=s.toks+1}) (r:=none) X J o u λb=>?_);obtain⟨cd,l,j⟩:=PySem.W.any_some n;have m:s.heap.get? x=some ⟨.ref C,some dx,.plain,#[]⟩:=I.obj;refine zI3 (zI6 (zI3 (zI3 (wpAny_loadPart m (zI3 (PySem.W.Looks.here (s:={s with toks:=s.toks+1}) (PySem.W.looks_clsIn X l) ?_))))));rw[j];refine zI6 (a:=some dx) (zI3 (zI6 (zI3 ?_)));refine wpAny_nsSet1 (s:={s with toks:=s.toks+1}) I.ns λh' c d=>?_;obtain⟨oD,t,q,k,e,g⟩:=c.count (PySem.Within.cons name v hw);refine zI3 (wpAny_lookBehind k (by rw[e];exact pastItsLine_dict (zK1 g (by rw[zM0];exact Nat.add_le_add i (zJ0 _)))) ?_);exact zI6 (h _ ⟨(d.2 _ (zN4 I.ne)).trans I.obj,c,I.ne⟩ d)
theorem cV {R:Result->Shared->Prop}{vs:List Value}{kw:List (Str×Value)}(X:K.In s.heap)(hm:PySem.W.makesIn K C=true)
  (hi:PySem.W.findIn K (.ref C) "__init__"=some (some (.ref f))) (hf:PySem.W.typeIn K (.ref f)=some (.type "function"))
  (h:codeAny (model prog w) (A.under (.builtin "type.__call__" ⟨.ref C::vs,kw⟩)) (.call (.ref f) ⟨.ref (s.heap.objs.size+1)::vs,kw⟩) (PySem.W.InitBack (s.heap.objs.size+1) R)
   {s with heap:=(s.heap.push PySem.W.emptyDict).push (PySem.W.instObj C s.heap.objs.size)}):
  codeAny (model prog w) A (.call (.ref C) ⟨vs,kw⟩) R s:=by
 obtain⟨a,g,d,t,os⟩:=s;exact PySem.W.make_core (PySem.W.makes_of X hm) (PySem.W.looks_findIn X hi) (λself=>PySem.W.bind_fn X self hf) (.inl rfl) h
end
def xD (f:Str)(v:V):List (Str×V)->List (Str×V)
 |[]=>[(f,v)]
 |(g,x)::r=>if g=f then(g,v)::r else(g,x)::xD f v r
theorem uJ (f g:Str)(v:V):∀fs:List (Str×V),(xD f v fs).lookup g=if g=f then some v else fs.lookup g
 |[]=>by
  show List.lookup g [(f,v)]=_;by_cases h:g=f
  ·have hb:(g == f)=true:=zY1.mpr h;simp only[List.lookup,hb,if_pos h]
  ·have hb:(g == f)=false:=zW6.mpr h;simp only[List.lookup,hb,if_neg h]
 |(k,x)::r=>by
  have a:=uJ f g v r;rw[show xD f v ((k,x)::r)=(if k=f then(k,v)::r else(k,x)::xD f v r)from rfl];by_cases hk:k=f
  ·rw[if_pos hk];by_cases h:g=k
   ·have hb:(g == k)=true:=zY1.mpr h;simp only[List.lookup,hb,if_pos (h.trans hk)]
   ·have hb:(g == k)=false:=zW6.mpr h;simp only[List.lookup,hb,if_neg (λe:g=f=>h (e.trans hk.symm))]
  ·rw[if_neg hk];by_cases h:g=k
   ·have hb:(g == k)=true:=zY1.mpr h;simp only[List.lookup,hb,if_neg (λe:g=f=>hk (h.symm.trans e))]
   ·have hb:(g == k)=false:=zW6.mpr h;simp only[List.lookup,hb];exact a
theorem uH (f:Str)(v:V):∀fs:List (Str×V),f∈(xD f v fs).map (·.1)/\∀g,g∈fs.map (·.1)->g∈(xD f v fs).map (·.1)
 |[]=>⟨by simp[xD],λg h=>by simp at h⟩
 |(k,x)::r=>by
  obtain⟨i1,i2⟩:=uH f v r;rw[show xD f v ((k,x)::r)=(if k=f then(k,v)::r else(k,x)::xD f v r)from rfl];by_cases hk:k=f
  ·rw[if_pos hk];subst hk;exact⟨by simp,λg h=>by simpa using h⟩
  ·rw[if_neg hk];refine⟨?_,λg h=>?_⟩
   ·rw[zM9];exact zJ2 _ i1
   ·rw[zM9]at h ⊢;rcases zJ1.mp h with e|e
    ·exact zJ1.mpr (.inl e)
    ·exact zJ2 _ (i2 g e)
theorem uN (f:Str)(v:V):∀fs:List (Str×V),(xD f v fs).length<=fs.length+1
 |[]=>by simp[xD]
 |(k,x)::r=>by
  have a:=uN f v r;rw[show xD f v ((k,x)::r)=(if k=f then(k,v)::r else(k,x)::xD f v r)from rfl];by_cases hk:k=f
  ·rw[if_pos hk,zM0,zM0];exact zL0 _ _
  ·rw[if_neg hk,zM0,zM0];exact Nat.add_le_add a (zJ0 _)
theorem wW.some_of {v:V}{o:Option Value}(r:wW (some v) o):∃u,o=some u/\RelV v u:=by
 cases o with
 |none=>exact(show False from r).elim
 |some u=>exact⟨u,rfl,r⟩
theorem wW.none_of {o:Option Value}(r:wW none o):o=none:=by
 cases o with
 |none=>rfl
 |some u=>exact(show False from r).elim
theorem jk {v:V}{u:Value}(r:RelV v u):PySem.W.handedIn u=true:=by
 cases v with
 |non=>cases(show u=Value.none from r);rfl
 |bl b=>cases(show u=Value.bool b from r);rfl
 |int i=>obtain⟨t,e⟩:=(show ∃t,u=Value.int i t from r);cases e;rfl
 |str x=>obtain⟨t,e⟩:=(show ∃t,u=Value.str x t from r);cases e;rfl
 |byt b=>obtain⟨t,e⟩:=(show ∃t,u=Value.bytes b t from r);cases e;rfl
 |flt b=>obtain⟨t,e⟩:=(show ∃t,u=Value.float b t from r);cases e;rfl
 |ref a=>cases(show u=Value.ref a from r);rfl
 |ty n=>cases(show u=Value.type n from r);rfl
section
variable {P:Program}{w:World}{H H':Hp}{h h':Heap}{a C dx:Addr}{fs fs':List (Str×V)}
theorem tK (hok:HOk P w H h)(e:H a=some (.ins C dx fs)):∃mA,nM h a dx C mA/\(∀f,wW (fs.lookup f) (mA f))/\PySem.Within mA (fs.map (·.1))/\fs.length<=1000/\H dx=some (.own a):=by
 obtain⟨d,z,ne,ob,mA,n,r,q⟩:=(show zS P w H h a (.ins C dx fs)from hok a _ e);exact⟨mA,⟨ob,n,ne⟩,r,q,z,d⟩
end
structure Cls (K:PySem.W.Frag)(C:Addr):Prop where
 pg:PySem.W.plainGet K C Str.empty=true
 hd:PySem.W.hasDictIn K C=true
 po:PySem.W.plainOver K C=true
 sa:PySem.W.findIn K (.ref C) "__setattr__"=some (some (.builtin "object.__setattr__"))
theorem Cls.get {K:PySem.W.Frag}{C:Addr}(c:Cls K C)(f:Str):PySem.W.plainGet K C f=true:=c.pg
def yq (K:PySem.W.Frag)(C:Addr)(f:Str):Prop:=PySem.W.findIn K (.ref C) f=some none
theorem yq.taker {K:PySem.W.Frag}{C:Addr}{f:Str}(n:yq K C f):PySem.W.takerIn K C f=some none:=by
 unfold PySem.W.takerIn;rw[show PySem.W.findIn K (.ref C) f=some none from n];rfl
structure Meth (K:PySem.W.Frag)(C:Addr)(m:Str)(f:Addr):Prop where
 at_:PySem.W.findIn K (.ref C) m=some (some (.ref f))
 fn:PySem.W.isFn K (.ref f)=true
 kp:PySem.W.keepIn K (.ref f)=true
section
variable {X:Cx}{pins:List (Addr×Obj)}{σ:St}{H:Hp}{s:Shared}{a C dx:Addr}{fs:List (Str×V)}{f:Str}{v:V}{A:Around}{E:Value->Shared->Prop}
theorem mO {b:Bool}{Q:Value->Shared->Prop}(I:Inv X pins σ H s)(e:H a=some (.ins C dx fs))(c:Cls X.K C)(n:yq X.K C f)(l:fs.lookup f=some v)
  (h:∀u s',Inv X pins σ H s'->RelV v u->Q u s'):wpAny (model X.prog X.w) A (getAttr (.ref a) f b) Q E s:=by
 obtain⟨mA,O,r,_,_,_⟩:=tK I.hok e;obtain⟨u,g,d⟩:=wW.some_of (v:=v) (o:=mA f) (by rw[<-l];exact r f);exact get_map I.kIn O (c.get f) c.hd n g (jk d) (h u _ (I.tok _) d)
theorem vq {m:Str}{g:Addr}{pl:Sem Bool}{Q:Value×List Value->Shared->Prop}(I:Inv X pins σ H s)(e:H a=some (.ins C dx fs))(c:Cls X.K C)(k:Meth X.K C m g)(l:fs.lookup m=none)
  (h:Q (.ref g,[.ref a]) s):wpAny (model X.prog X.w) A (getMethod (.ref a) m pl) Q E s:=by
 obtain⟨mA,O,r,_,_,_⟩:=tK I.hok e;have hn:mA m=none:=wW.none_of (by rw[<-l];exact r m);exact ee I.kIn O (c.get m) k.at_ k.fn hn h
theorem mN {y:V}{u:Value}{Q:Unit->Shared->Prop}(I:Inv X pins σ H s)(e:H a=some (.ins C dx fs))(c:Cls X.K C)(n:yq X.K C f)(k:fs.length<1000)(l:RelV y u)
  (h:∀s',Inv X pins σ (upd H a (.ins C dx (xD f y fs))) s'->Q () s'):wpAny (model X.prog X.w) A (setAttr (.ref a) f u) Q E s:=by
 obtain⟨mA,O,r,j,_,i⟩:=tK I.hok e;have hz:(fs.map (·.1)).length<=sizeLine:=by rw[zI5,zO7];lia
 refine aj I.kIn O c.sa c.po n.taker c.hd j hz λh' d sb=>h _ ?_;have hd:∃o,h'.get? dx=some o:=let⟨o,_,_,e',_⟩:=d.ns;⟨o,e'⟩;refine I.write (x:=a) (e:=dx) (by rw[e];exact True.intro) (.inr i) (λb q hb z=>(sb.2 b hb).trans z) hd ?_;refine⟨by rw[zh O.ne];exact i,?_,O.ne,d.obj,_,d.ns,λg=>?_,λg hg=>?_⟩
 ·have:=uN f y fs;exact zK1 this k
 ·show wW ((xD f y fs).lookup g) (if g=f then some u else mA g);rw[uJ];by_cases q:g=f
  ·rw[if_pos q,if_pos q];exact l
  ·rw[if_neg q,if_neg q];exact r g
 ·by_cases q:g=f
  ·rw[q];exact(uH f y fs).1
  ·refine(uH f y fs).2 g (j g λz=>hg ?_);show(if g=f then some u else mA g)=none;rw[if_neg q];exact z
theorem Inv.made (I:Inv X pins σ H s):Inv X pins σ (upd (upd H s.heap.objs.size (.own (s.heap.objs.size+1))) (s.heap.objs.size+1) (.ins C s.heap.objs.size []))
  {s with heap:=(s.heap.push PySem.W.emptyDict).push (PySem.W.instObj C s.heap.objs.size)}:=by
 have e1:(s.heap.push PySem.W.emptyDict).get? s.heap.objs.size=some PySem.W.emptyDict:=zJ4 s.heap rfl;have g:((s.heap.push PySem.W.emptyDict).push (PySem.W.instObj C s.heap.objs.size)).get? (s.heap.objs.size+1)=some (PySem.W.instObj C s.heap.objs.size):=by
  have:=zJ4 (s.heap.push PySem.W.emptyDict) (o:=PySem.W.instObj C s.heap.objs.size) rfl
  rwa [zP8]at this
 have d:(s.heap.push PySem.W.emptyDict).Ns s.heap.objs.size (λ_=>none):=⟨PySem.W.emptyDict,#[],_,e1,rfl,(λe he=>absurd he (by simp)),λ_=>rfl⟩;have c:=I.laid (a:=s.heap.objs.size) (o:=.own (s.heap.objs.size+1)) (h':=s.heap.push PySem.W.emptyDict) (t':=s.toks) (λb u q=>zI4 _ q) (zJ0 _) ⟨_,e1⟩;refine c.laid (a:=s.heap.objs.size+1) (o:=.ins C s.heap.objs.size []) (t':=s.toks) (λb u q=>zI4 _ q) (zL7 (zP8 _ _)) ?_;have ne:s.heap.objs.size≠s.heap.objs.size+1:=zK2 (zO3 _);refine⟨by rw[zh ne,zk],zJ8 _,ne,g,λ_=>none,(Heap.Ns1.of_empty d).at λo q=>zI4 _ q,λ_=>True.intro,λy hy=>absurd rfl hy⟩
theorem cZ {prog:Program}{w:World}{env:Env}{e:Expr}{f:Str}{pos:Pos}{s:Shared}{Q:Value->Shared->Prop}(hb:attributeBase e f env (eval e env)=eval e env)
  (h:wpAny (model prog w) A (eval e env) (λo b=>wpAny (model prog w) A (getAttr o f true) Q E b) E s):wpAny (model prog w) A (eval (.Attribute e f pos) env) Q E s:=
 Attribute_any_ h (by rw[arm_eval_Attribute,hb])
end
def zG2 (K:PySem.W.Frag)(b:TE)(f:Str):TE:=λσ H Q=>b σ H λx H1=>∃a C dx fs v,x=.ref a/\H1 a=some (.ins C dx fs)/\Cls K C/\yq K C f/\fs.lookup f=some v/\Q v H1
def zF7 (K:PySem.W.Frag)(d c:TE)(f:Str):TS:=λD σ H=>c σ H λy H1=>d σ H1 λx b=>∃a C dx fs,x=.ref a/\b a=some (.ins C dx fs)/\Cls K C/\yq K C f/\fs.length<1000/\
 D.nx σ (upd b a (.ins C dx (xD f y fs)))
section
variable {X:Cx}{o e value:Expr}{f:Str}{pos pos' tpos:Pos}{ta tv:TE}
theorem zr9 (he:PE X e ta)(hb:attributeBase e f X.env (eval e X.env)=eval e X.env):PE X (.Attribute e f pos) (zG2 X.K ta f):=by
 intro pins s σ H Q I h;refine cZ hb (thn (he pins s σ H _ I h) λu s1 b=>?_);obtain⟨x,H1,d,k,a,C,dx,fs,v,ex,g,c,n,l,q⟩:=b;subst ex;obtain rfl:u=Value.ref a:=k;exact mO d g c n l λm s2 j i=>⟨v,H1,j,i,q⟩
theorem qJ (ha:PE X o ta)(g:PE X value tv)(p:swapsWith value (some (.Attribute o f pos')) pos.line X.env=pure false):PS X (.Assign [.Attribute o f pos'] value pos) (zF7 X.K ta tv f):=by
 intro pins s σ H D I h;refine plainObj_wpAny_Assign_Attribute (thn (g pins s σ H _ I h) λu s1 ⟨y,H1,b,i,q⟩=>thn (ha pins s1 σ H1 _ b q) λr s2 ⟨x,v,j,t,a,C,dx,fs,ex,d,c,n,l,k⟩=>?_) p;subst ex;obtain rfl:r=Value.ref a:=t;exact mN j d c n l i λs3 m=>⟨σ,_,m,k⟩
theorem zf3 {pl:Sem Bool}{m:Str}{apos:Pos}{args:List Expr}{pins:List (Addr×Obj)}{s:Shared}{σ:St}{H:Hp}{Q:Value->Shared->Prop}{d:TE}(he:PE X e d)(I:Inv X pins σ H s)
  (h:d σ H λx H1=>∃a C dx fs g,x=.ref a/\H1 a=some (.ins C dx fs)/\Cls X.K C/\Meth X.K C m g/\fs.lookup m=none/\
   ∀s1,Inv X pins σ H1 s1->wpAny (model X.prog X.w) X.A (callWith pos (.ref g) [.ref a] (backTo pos (starEach args X.env)) (backToKw pos (keywordEach [] X.env))) Q X.xe s1)
  (p:eval (.Call (.Attribute e m apos) args [] pos) X.env=(do
   let ov <-eval e X.env
   standAt apos.atName
   let(f,first) <-holding [ov] (getMethod ov m pl)
   callWith pos f first (backTo pos (starEach args X.env)) (backToKw pos (keywordEach [] X.env)))):
  wpAny (model X.prog X.w) X.A (eval (.Call (.Attribute e m apos) args [] pos) X.env) Q X.xe s:=by
 refine z24 (pl:=pl) (thn (he pins s σ H _ I h) λu s1 b=>?_) p;obtain⟨x,H1,i,n,a,C,dx,fs,g,ex,j,c,k,l,q⟩:=b;subst ex;obtain rfl:u=Value.ref a:=n;exact vq i j c k l (q s1 i)
end
section
variable {X:Cx}{pins:List (Addr×Obj)}{σ:St}{H:Hp}{s:Shared}{A:Around}{E:Value->Shared->Prop}{Q:Value->Shared->Prop}{c:Value}{b:Bool}
inductive vV (K:PySem.W.Frag)(H:Hp):V->Value->Prop where
 |non:vV K H .non (.type "NoneType")
 |bl (x:Bool):vV K H (.bl x) (.type "bool")
 |int (i:Int):vV K H (.int i) (.type "int")
 |str (x:Str):vV K H (.str x) (.type "str")
 |flt (x:UInt64):vV K H (.flt x) (.type "float")
 |lst {a:Addr}{xs:List V} (e:H a=some (.lst xs)):vV K H (.ref a) (.type "list")
 |frz {a:Addr}{o:Obj}{xs:List V} (e:H a=some (.frz o (.lst xs))):vV K H (.ref a) (.type "list")
 |tup {a:Addr}{xs:List V} (e:H a=some (.tup xs)):vV K H (.ref a) (.type "tuple")
 |dK {a:Addr}{kvs:List (Key×V)} (e:H a=some (.dK kvs)):vV K H (.ref a) (.type "dict")
 |dT {a:Addr}{kvs:List (List Key×V)} (e:H a=some (.dT kvs)):vV K H (.ref a) (.type "dict")
 |ins {a C dx:Addr}{fs:List (Str×V)} (e:H a=some (.ins C dx fs)) (cl:Cls K C) (ha:PySem.W.findIn K (.ref C) "__class__"=some (some (.builtin "object.__class__")))
   (hn:PySem.W.specialIn K (.builtin "object.__class__") "__get__"=some (some (.builtin "getset_descriptor.__get__"))) (htk:PySem.W.takesIn K (.builtin "object.__class__")=some true)
   (hm:PySem.W.mroIn K C (.type "object")=some true):vV K H (.ref a) (.ref C)
theorem jy {x:V}{u t:Value}(I:Inv X pins σ H s)(d:RelV x u)(ty:vV X.K H x t)(e:PySem.W.kitOne X.K t c=some b)(h:∀tk,Q (.bool b) {s with toks:=tk}):
  wpAny (model X.prog X.w) A (call (.builtin "isinstance") [u,c]) Q E s:=by
 cases ty with
 |non=>cases(show u=Value.none from d);exact zQ0 PySem.W.kitx_none I.kIn True.intro e (λz=>nomatch z) h
 |bl y=>cases(show u=Value.bool y from d);exact zQ0 PySem.W.kitx_bool I.kIn True.intro e (λz=>nomatch z) h
 |int i=>obtain⟨t,q⟩:=(show ∃t,u=Value.int i t from d);cases q;exact zQ0 PySem.W.kitx_int I.kIn True.intro e (λz=>nomatch z) h
 |str y=>obtain⟨t,q⟩:=(show ∃t,u=Value.str y t from d);cases q;exact zQ0 PySem.W.kitx_str I.kIn True.intro e (λz=>nomatch z) h
 |flt y=>obtain⟨t,q⟩:=(show ∃t,u=Value.float y t from d);cases q;exact zQ0 PySem.W.kitx_float I.kIn True.intro e (λz=>nomatch z) h
 |@lst a xs ea=>
  cases(show u=Value.ref a from d);obtain⟨_,_,n,_,f⟩:=(show zS X.prog X.w H s.heap a (.lst xs)from I.hok a _ ea);exact zQ0 PySem.W.kitx_list I.kIn ⟨_,f,rfl⟩ e (λz=>nomatch z) h
 |@frz a ob xs ea=>
  cases(show u=Value.ref a from d);obtain⟨_,_,_,n,_,f⟩:=(show zS X.prog X.w H s.heap a (.frz ob (.lst xs))from I.hok a _ ea);exact zQ0 PySem.W.kitx_list I.kIn ⟨_,f,rfl⟩ e (λz=>nomatch z) h
 |@tup a xs ea=>
  cases(show u=Value.ref a from d);obtain⟨_,_,_,p⟩:=(show zS X.prog X.w H s.heap a (.tup xs)from I.hok a _ ea);obtain⟨o,f,g,_⟩:=p;exact zQ0 PySem.W.kitx_tuple I.kIn ⟨o,f,g⟩ e (λz=>nomatch z) h
 |@dK a kvs ea=>
  cases(show u=Value.ref a from d);obtain⟨_,_,vs,_,p⟩:=(show zS X.prog X.w H s.heap a (.dK kvs)from I.hok a _ ea);obtain⟨o,es,ep,f,g,_⟩:=p;exact zQ0 PySem.W.kitx_dict I.kIn ⟨o,f,g.1⟩ e (λz=>nomatch z) h
 |@dT a kvs ea=>
  cases(show u=Value.ref a from d);obtain⟨_,_,xs,_,o,es,ep,f,g,_⟩:=(show zS X.prog X.w H s.heap a (.dT kvs)from I.hok a _ ea);exact zQ0 PySem.W.kitx_dict I.kIn ⟨o,f,g.1⟩ e (λz=>nomatch z) h
 |@ins a C dx fs ea cl ha hn htk hm=>
  cases(show u=Value.ref a from d);obtain⟨mA,O,_⟩:=tK I.hok ea;obtain⟨od,J,_⟩:=O.look;exact zQ0 (PySem.W.kitx_own (cl.get _) cl.hd ha hn htk hm) I.kIn J e (λz=>nomatch z) h
end
structure zI (k:Nat)(A:Around):Prop where
 hd:A.handled=none
 dp:A.depth+3*k+5<recursionLimit
 un:A.units+16*k+200<cLine
 gd:A.guards=some []
theorem zI.mono {j k:Nat}{A:Around}(r:zI k A)(h:j<=k):zI j A:=⟨r.hd,by have:=r.dp;lia,by have:=r.un;lia,r.gd⟩
theorem zI.deeper {k:Nat}{A:Around}(r:zI (k+1) A)(env:Env):zI k (A.deeper env):=
 ⟨r.hd,by have:=r.dp;show A.depth+1+3*k+5<_;exact zj7 this,by have:=r.un;show A.units+3+16*k+200<_;lia,r.gd⟩
theorem zI.in1 {k:Nat}{A:Around}(r:zI (k+1) A):zI k A.in1:=
 ⟨r.hd,by have:=r.dp;show A.depth+3*k+5<_;lia,by have:=r.un;show A.units+1+16*k+200<_;exact ze4 this,r.gd⟩
theorem mV {A:Around}{C:Addr}{us:List Value}{kw:List (Str×Value)}:(A.under (.builtin "type.__call__" ⟨.ref C::us,kw⟩)).depth=A.depth+1:=by
 first|rfl|simp[Around.under,Code.weight,Code.isCreation,Code.isGuard,Code.isCaller,Code.frames,Code.isFrame,guardIds]
theorem mn {A:Around}{C:Addr}{us:List Value}{kw:List (Str×Value)}:(A.under (.builtin "type.__call__" ⟨.ref C::us,kw⟩)).units=A.units+1:=by
 first|rfl|simp[Around.under,Code.cUnits,Code.frames,Code.isFrame]
theorem nA {A:Around}{C:Addr}{us:List Value}{kw:List (Str×Value)}:(A.under (.builtin "type.__call__" ⟨.ref C::us,kw⟩)).guards=A.guards:=by
 first|rfl|simp[Around.under,Code.guards,Code.isGuard,guardIds,pushGuards]
theorem zI.make {k:Nat}{A:Around}(r:zI (k+1) A)(C:Addr)(us:List Value)(kw:List (Str×Value)):zI k (A.under (.builtin "type.__call__" ⟨.ref C::us,kw⟩)):=
 ⟨r.hd,by have:=r.dp;rw[mV];exact zj7 this,by have:=r.un;rw[mn];exact ze4 this,(nA (A:=A)).trans r.gd⟩
theorem zI.depth {k:Nat}{A:Around}(r:zI k A):A.depth<recursionLimit:=by have:=r.dp;exact zK9 (zL0 _ _) (zK9 (zL0 _ _) this)
theorem zI.units {k:Nat}{A:Around}(r:zI k A):A.units+64<cLine:=by have:=r.un;lia
def zB3 :TA:=λ_ H Q=>Q [] H
def zD9 (a:TE)(tr:TA):TA:=λσ H Q=>a σ H λx H1=>tr σ H1 λxs b=>Q (x::xs) b
section
variable {X:Cx}{e:Expr}{es:List Expr}{te:TE}{t:TA}{pos:Pos}
theorem yp :PA X [] zB3:=λ_ _ _ _ H Q I h=>Calls.spliced_nil ⟨[],H,I,.nil,h⟩
theorem zE (ha:PE X e te)(hr:PA X es t)(j:starEach (e::es) X.env=(false,eval e X.env)::starEach es X.env:=by rfl):PA X (e::es) (zD9 te t):=by
 intro pos pins s σ H Q I h;rw[j];show wpAny _ _ (spliced ((false,eval e X.env)::backTo pos (starEach es X.env))) _ _ s;refine Calls.spliced_cons (thn (ha pins s σ H _ I h) λu s1 b=>?_);obtain⟨x,H1,c,l,k⟩:=b;exact thn (hr pos pins s1 σ H1 _ c k) λus s2 a=>by obtain⟨xs,i,f,d,g⟩:=a;exact⟨x::xs,i,f,.cons l d,g⟩
def zI0 (t:TA):TE:=λσ H Q=>t σ H λxs H1=>xs.length<=sizeLine/\∀p,H1 p=none->Q (.ref p) (upd H1 p (.tup xs))
def zF3 (t:TA):TE:=λσ H Q=>t σ H λxs H1=>xs.length<=sizeLine/\∀p,H1 p=none->Q (.ref p) (upd H1 p (.lst xs))
theorem fh {x1}(h:PA X es t):PE X (.Tuple es x1 pos) (zI0 t):=by
 intro pins s σ H Q I hq;refine wpAny_Tuple_spliced (thn (h pos pins s σ H _ I hq) λus s1 ⟨xs,H1,a,r,z,q⟩=>⟨by rw[<-r.length];exact z,?_⟩);have hf:H1 s1.heap.objs.size=none:=a.hok.fresh (zJ0 _);refine⟨.ref s1.heap.objs.size,upd H1 s1.heap.objs.size (.tup xs),a.laid (t':=s1.toks) (λb u e=>zI4 _ e) (zJ0 _) ?_,rfl,q _ hf⟩;exact⟨z,us,r,⟨_,zJ4 _ rfl,rfl,_,rfl⟩⟩
theorem eX (h:PA X es t):PE X (.List es pos) (zF3 t):=by
 intro pins s σ H Q I hq;refine wpAny_List_spliced (thn (h pos pins s σ H _ I hq) λus s1 ⟨xs,H1,a,r,z,q⟩=>⟨by rw[<-r.length];exact z,?_⟩);have hf:H1 s1.heap.objs.size=none:=a.hok.fresh (zJ0 _);refine⟨.ref s1.heap.objs.size,upd H1 s1.heap.objs.size (.lst xs),a.laid (t':=s1.toks) (λb u e=>zI4 _ e) (zJ0 _) ?_,rfl,q _ hf⟩;exact⟨z,us,0,r,zJ4 _ rfl⟩
end
abbrev Sp :=List V->Hp->VK->XK->Prop
abbrev CXT :=List Env->Hp->Shared->XK->Value->Shared->Prop
structure uG (P:Program)(w:World)(K:PySem.W.Frag)(mg:Str->Option Value)(base:Heap)(A:Around)(outer:List Env)(s:Shared)(H:Hp):Prop where
 frames:A.frames=some outer
 mod:Mod K mg base
 bs:∀b o,base.get? b=some o->s.heap.get? b=some o/\H b=none
 bsz:base.objs.size<=s.heap.objs.size
 funs:s.heap.FunFrames base outer
 frf:∀b∈frs outer,H b=none
 hok:HOk P w H s.heap
 bare:AllBare s.gens
def CE (outer:List Env)(P:Program)(w:World)(H:Hp)(s:Shared)(Q:VK)(u:Value)(s':Shared):Prop:=
 ∃v H',s'.os=s.os/\AllBare s'.gens/\Un (frs outer) [] H H' s.heap s'.heap/\HOk P w H' s'.heap/\RelV v u/\Q v H'
def CR (CX:CXT)(outer:List Env)(P:Program)(w:World)(H:Hp)(s:Shared)(Q:VK)(E:XK)(r:Result)(s':Shared):Prop:=
 match r with
 |.ok (.ret u)=>CE outer P w H s Q u s'
 |.ok _=>False
 |.error e=>CX outer H s E e s'
structure yE (P:Program)(w:World)(K:PySem.W.Frag)(mg:Str->Option Value)(base:Heap)(CX:CXT)(k:Nat)(f:Addr)(fd:FuncData)(ps:List Str)(sp:Sp):Prop where
 len:∀vs H Q E,sp vs H Q E->vs.length=ps.length
 run:∀(A:Around) (outer:List Env) (s:Shared) (H:Hp) (args:Args) (us:List Value) (vs:List V) (Q:VK) (E:XK),zI k A->uG P w K mg base A outer s H->BindsTo s fd args (ps.zip us)->Vals vs us->sp vs H Q E->
  codeAny (model P w) A (.call (.ref f) args) (CR CX outer P w H s Q E) s
theorem yE.imp {P:Program}{w:World}{K:PySem.W.Frag}{mg:Str->Option Value}{base:Heap}{CX:CXT}{k:Nat}{f:Addr}{fd:FuncData}{ps:List Str}{sp a:Sp}(F:yE P w K mg base CX k f fd ps sp)
  (h:∀vs H Q E,a vs H Q E->sp vs H Q E):yE P w K mg base CX k f fd ps a:=
 ⟨λvs H Q E q=>F.len vs H Q E (h _ _ _ _ q),λA outer s H args us vs Q E hr he hb b c=>F.run A outer s H args us vs Q E hr he hb b (h _ _ _ _ c)⟩
theorem uG.make {P:Program}{w:World}{K:PySem.W.Frag}{mg:Str->Option Value}{base:Heap}{A:Around}{outer:List Env}{s:Shared}{H:Hp}(e:uG P w K mg base A outer s H)(C:Addr)(us:List Value)(kw:List (Str×Value)):
  uG P w K mg base (A.under (.builtin "type.__call__" ⟨.ref C::us,kw⟩)) outer s H:=⟨by first|exact e.frames|(simpa[Around.under,Code.envs,Code.isFrame,pushEnvs]using e.frames),e.mod,e.bs,e.bsz,e.funs,e.frf,e.hok,e.bare⟩
theorem uG.in1 {P:Program}{w:World}{K:PySem.W.Frag}{mg:Str->Option Value}{base:Heap}{A:Around}{outer:List Env}{s:Shared}{H:Hp}(e:uG P w K mg base A outer s H):
  uG P w K mg base A.in1 outer s H:=⟨e.frames,e.mod,e.bs,e.bsz,e.funs,e.frf,e.hok,e.bare⟩
section
variable {X:Cx}{pins:List (Addr×Obj)}{σ:St}{H:Hp}{s s':Shared}
theorem Inv.env0 (I:Inv X pins σ H s):uG X.prog X.w X.K X.mg X.base X.A X.stack s H:=
 ⟨I.ok.frames,I.ok.mod,I.bs,zK1 I.ok.bsz I.sz,I.stack,I.stkFree,I.hok,I.bare⟩
theorem Inv.after {Q:VK}{u:Value}(I:Inv X pins σ H s)(h:CE X.stack X.prog X.w H s Q u s'):EP X pins σ Q u s':=by
 obtain⟨v,H',os,bare,un,hok,r,q⟩:=h;obtain⟨c,g,d,t,a⟩:=s';obtain rfl:a=s.os:=os;exact⟨v,H',I.call (h':=c) (g':=g) (d':=d) (t':=t) (ch:=[]) un hok bare (λb z=>absurd z (by simp)),r,q⟩
end
def zv5 (sp:Sp)(dvs:List V)(E:XK)(t:TA):TE:=λσ H Q=>t σ H λvs H1=>sp (vs++dvs) H1 Q E
def zc6 (C:Addr)(m:Str)(sp:Sp)(dvs:List V)(E:XK)(b:TE)(t:TA):TE:=λσ H Q=>b σ H λx H1=>∃a dx fs,x=.ref a/\H1 a=some (.ins C dx fs)/\fs.lookup m=none/\
 t σ H1 λvs c=>sp (x::(vs++dvs)) c Q E
def zD1 (C:Addr)(sp:Sp)(dvs:List V)(E:XK)(t:TA):TE:=λσ H Q=>t σ H λvs H1=>∀x dx,H1 x=none->H1 dx=none->dx≠x->
 sp (.ref x::(vs++dvs)) (upd (upd H1 dx (.own x)) x (.ins C dx [])) (λv a=>v=.non/\Q (.ref x) a) E
def Binds (K:PySem.W.Frag)(fd:FuncData)(ps:List Str)(ds:List Value):Prop:=
 ∀(s:Shared) (us:List Value),K.In s.heap->(us++ds).length=ps.length->BindsTo s fd ⟨us,[]⟩ (ps.zip (us++ds))
theorem Binds.all {K:PySem.W.Frag}{fd:FuncData}{ps:List Str}(h:∀us:List Value,us.length=ps.length->bindArgs fd ⟨us,[]⟩=pure (ps.zip us)):Binds K fd ps []:=λs us _ a=>by
 rw[zO1]at a ⊢;exact .of_eq (h us a)
def Passes (CX:CXT)(X:Cx)(E:XK):Prop:=∀(pins:List (Addr×Obj)) (σ:St) (H:Hp) (s:Shared) (e:Value) (s':Shared),Inv X pins σ H s->CX X.stack H s E e s'->X.xe e s'
section
variable {X:Cx}{CX:CXT}{k:Nat}{f C:Addr}{fd:FuncData}{ps:List Str}{sp:Sp}{dvs:List V}{ds:List Value}{E:XK}{x m:Str}{p pos apos:Pos}{e o:Expr}{es:List Expr}{ta:TE}{t:TA}
theorem nH {pins:List (Addr×Obj)}{σ:St}{H:Hp}{s:Shared}{Q:VK}{us:List Value}{vs:List V}(F:yE X.prog X.w X.K X.mg X.base CX k f fd ps sp)(hr:zI k X.A)(hb:Binds X.K fd ps ds)(hd:Vals dvs ds)(c:Passes CX X E)
  (I:Inv X pins σ H s) (r:Vals vs us) (h:sp (vs++dvs) H Q E):wpAny (model X.prog X.w) X.A (call (.ref f) us) (EP X pins σ Q) X.xe s:=by
 have a:Vals (vs++dvs) (us++ds):=r.append hd;have b:(us++ds).length=ps.length:=by rw[<-a.length];exact F.len _ _ _ _ h
 refine wpAny_call (zX7 (F.run X.A X.stack s H ⟨us,[]⟩ (us++ds) (vs++dvs) Q E hr I.env0 (hb s us I.kIn b) a h) λr s' hq=>?_);cases r with
 |error e=>exact c pins σ H s e s' I hq
 |ok d=>
  cases d with
  |ret u=>exact I.after hq
  |next=>exact False.elim hq
  |brk=>exact False.elim hq
  |cont=>exact False.elim hq
theorem lB (F:yE X.prog X.w X.K X.mg X.base CX k f fd ps sp)(hr:zI k X.A)(hg:Gl X x)(hm:X.mg x=some (.ref f))(hk:PySem.W.keepIn X.K (.ref f)=true)(hb:Binds X.K fd ps ds)(hd:Vals dvs ds)(d:Passes CX X E)
  (ha:PA X (e::es) t) (b:(x == ("__debug__":Str))=false:=by decide) (he:starEach (e::es) X.env=(false,eval e X.env)::starEach es X.env:=by rfl) (hpl:(backTo pos (starEach es X.env)).any (·.1)=false:=by rfl):
  PE X (.Call (.Name x p) (e::es) [] pos) (zv5 sp dvs E t):=by
 intro pins s σ H Q I h;refine zX1 (vK I hg hm ?_ b);refine z36 (h₀:=X.base) I.ok.mod.kin hk (thn (ha pos pins s σ H _ I h) λus s1 a=>?_) he hpl;obtain⟨vs,H1,c,r,q⟩:=a;refine⟨c.kIn,?_⟩;exact nH F hr hb hd d c r q
theorem aP {pl:Sem Bool}(he:PE X o ta)(c:Cls X.K C)(hm:Meth X.K C m f)(F:yE X.prog X.w X.K X.mg X.base CX k f fd ps sp)(hr:zI k X.A)(hb:Binds X.K fd ps ds)(hd:Vals dvs ds)(z:Passes CX X E)(ha:PA X (e::es) t)
  (g:starEach (e::es) X.env=(false,eval e X.env)::starEach es X.env:=by rfl) (hpl:(backTo pos (starEach es X.env)).any (·.1)=false:=by rfl)
  (B:eval (.Call (.Attribute o m apos) (e::es) [] pos) X.env=(do
   let ov <-eval o X.env
   standAt apos.atName
   let(f,first) <-holding [ov] (getMethod ov m pl)
   callWith pos f first (backTo pos (starEach (e::es) X.env)) (backToKw pos (keywordEach [] X.env))):=by rfl):
  PE X (.Call (.Attribute o m apos) (e::es) [] pos) (zc6 C m sp dvs E ta t):=by
 intro pins s σ H Q I h;refine z24 (pl:=pl) (thn (he pins s σ H _ I h) λu s1 d=>?_) B;obtain⟨x,H1,j,y,a,dx,fs,ex,n,l,q⟩:=d;subst ex;obtain rfl:u=Value.ref a:=y;refine vq j n c hm l ?_;refine z36 (first:=[.ref a]) (h₀:=X.base) I.ok.mod.kin hm.kp (thn (ha pos pins s1 σ H1 _ j q) λus s2 b=>?_) g hpl;obtain⟨vs,D,i,r,v⟩:=b;refine⟨i.kIn,?_⟩;exact nH (us:=.ref a::us) (vs:=.ref a::vs) F hr hb hd z i (.cons rfl r) v
theorem gQ {pl:Sem Bool}(he:PE X o ta)(c:Cls X.K C)(hm:Meth X.K C m f)(F:yE X.prog X.w X.K X.mg X.base CX k f fd ps sp)(hr:zI k X.A)(hb:Binds X.K fd ps ds)(hd:Vals dvs ds)(i:Passes CX X E)
  (n:eval (.Call (.Attribute o m apos) [] [] pos) X.env=(do
   let ov <-eval o X.env
   standAt apos.atName
   let(f,first) <-holding [ov] (getMethod ov m pl)
   callWith pos f first (backTo pos (starEach [] X.env)) (backToKw pos (keywordEach [] X.env))):=by rfl):
  PE X (.Call (.Attribute o m apos) [] [] pos) (zc6 C m sp dvs E ta zB3):=by
 intro pins s σ H Q I h;refine z24 (pl:=pl) (thn (he pins s σ H _ I h) λu s1 b=>?_) n;obtain⟨x,H1,d,j,a,dx,fs,ex,g,l,q⟩:=b;subst ex;obtain rfl:u=Value.ref a:=j;refine vq d g c hm l ?_;exact PySem.W.callWith_K0 (first:=[.ref a]) d.kIn hm.kp (nH (us:=[.ref a]) (vs:=[.ref a]) F hr hb hd i d (.cons rfl .nil) q)
structure Mk (K:PySem.W.Frag)(C f:Addr):Prop where
 makes:PySem.W.makesIn K C=true
 init:PySem.W.findIn K (.ref C) "__init__"=some (some (.ref f))
 fn:PySem.W.isFn K (.ref f)=true
 kp:PySem.W.keepIn K (.ref C)=true
theorem fM {pins:List (Addr×Obj)}{σ:St}{H:Hp}{s:Shared}{Q:VK}{us:List Value}{vs:List V}(M:Mk X.K C f)(F:yE X.prog X.w X.K X.mg X.base CX k f fd ps sp)(hr:zI (k+1) X.A)(hb:Binds X.K fd ps ds)(hd:Vals dvs ds)
  (j:Passes CX X E) (I:Inv X pins σ H s) (r:Vals vs us)
  (h:∀x dx,H x=none->H dx=none->dx≠x->sp (.ref x::(vs++dvs)) (upd (upd H dx (.own x)) x (.ins C dx [])) (λv n=>v=.non/\Q (.ref x) n) E):
  wpAny (model X.prog X.w) X.A (call (.ref C) us) (EP X pins σ Q) X.xe s:=by
 have hq:=h (s.heap.objs.size+1) s.heap.objs.size (I.hok.fresh (zT5 _)) (I.hok.fresh (zJ0 _)) (zK2 (zO3 _));have b:=Inv.made (C:=C) I;have c:Vals (V.ref (s.heap.objs.size+1)::(vs++dvs)) (Value.ref (s.heap.objs.size+1)::(us++ds)):=.cons rfl (r.append hd);have i:(Value.ref (s.heap.objs.size+1)::us++ds).length=ps.length:=by
  have e:=c.length;rw[F.len _ _ _ _ hq]at e;exact e.symm
 refine wpAny_call (cV (f:=f) I.kIn M.makes M.init (zY1.mp M.fn) (zX7 (F.run _ X.stack _ _ ⟨Value.ref (s.heap.objs.size+1)::us,[]⟩ (Value.ref (s.heap.objs.size+1)::(us++ds)) _ _ E (hr.make C us [])
  (b.env0.make C us []) (hb _ (Value.ref (s.heap.objs.size+1)::us) b.kIn i) c hq) λr s' a=>?_))
 cases r with
 |error e=>exact j pins σ _ _ e s' b a
 |ok g=>
  cases g with
  |ret u=>
   obtain⟨v,H',q,l,ev,d⟩:=b.after a;subst ev;exact⟨l,⟨V.ref (s.heap.objs.size+1),H',q,rfl,d⟩⟩
  |next=>exact False.elim a
  |brk=>exact False.elim a
  |cont=>exact False.elim a
theorem zb9 (M:Mk X.K C f)(F:yE X.prog X.w X.K X.mg X.base CX k f fd ps sp)(hr:zI (k+1) X.A)(hg:Gl X x)(hm:X.mg x=some (.ref C))(hb:Binds X.K fd ps ds)(hd:Vals dvs ds)(d:Passes CX X E)
  (ha:PA X (e::es) t) (b:(x == ("__debug__":Str))=false:=by decide) (he:starEach (e::es) X.env=(false,eval e X.env)::starEach es X.env:=by rfl) (hpl:(backTo pos (starEach es X.env)).any (·.1)=false:=by rfl):
  PE X (.Call (.Name x p) (e::es) [] pos) (zD1 C sp dvs E t):=by
 intro pins s σ H Q I h;refine zX1 (vK I hg hm ?_ b);refine z36 (h₀:=X.base) I.ok.mod.kin M.kp (thn (ha pos pins s σ H _ I h) λus s1 a=>?_) he hpl;obtain⟨vs,H1,c,r,q⟩:=a;refine⟨c.kIn,?_⟩;exact fM M F hr hb hd d c r q
end
section
variable {X:Cx}{CX:CXT}{k:Nat}{f C:Addr}{fd:FuncData}{ps ks:List Str}{sp:Sp}{E:XK}{x m:Str}{p pos apos kpos:Pos}{e o:Expr}{es:List Expr}{kws:List Keyword}{te ta:TE}{t tk:TA}{nm:Option Str}
variable {g:List Value->List Value->List Value}{gV:List V->List V->List V}
end
structure zT (N P:List Str)(sc:Scope):Prop where
 kind:sc.kind=.function
 co:sc.isCoroutine=false
 gen:sc.isGenerator=false
 nd:N.Nodup
 pre:N.take P.length=P
 par:∀x∈P,sc.names.lookup x=some .local\/sc.names.lookup x=some .cell
 nofree:∀y∈sc.names,y.2≠.free
theorem qc {kindOf:Str->Option NameKind}{x:Str}:∀{binds:List (Str×Value)}{m:Str->Option Value},(∀v,(x,v)∉binds)->bindL kindOf binds m x=m x
 |[],_,_=>rfl
 |(n,v)::r,m,h=>by
  unfold bindL;rw[qc λw hw=>h w (zJ2 _ hw)];split
  ·have:x≠n:=by rintro rfl;exact h v zJ6
   simp[this]
  ·rfl
theorem qg {kindOf:Str->Option NameKind}{x:Str}:∀{binds:List (Str×Value)}{m:Str->Option Value},(∀v,(x,v)∉binds)->bindC kindOf binds m x=m x
 |[],_,_=>rfl
 |(n,v)::r,m,h=>by
  unfold bindC;rw[qg λw hw=>h w (zJ2 _ hw)];split
  ·rfl
  ·have:x≠n:=by rintro rfl;exact h v zJ6
   simp[this]
theorem rT {kindOf:Str->Option NameKind}{x:Str}{v:Value}:∀{P:List Str}{vs:List Value}{i:Nat}{m:Str->Option Value},P.Nodup->P[i]?=some x->vs[i]?=some v->kindOf x=some .local->
  bindL kindOf (P.zip vs) m x=some v
 |[],_,_,_,_,h,_,_=>by simp at h
 |_::_,[],_,_,_,_,h,_=>by simp at h
 |p::P,w::vs,0,m,nd,a,b,hk=>by
  simp at a b;subst a;subst b;show bindL kindOf ((p,w)::P.zip vs) m p=_;unfold bindL;rw[qc λv c=>(zZ4.mp nd).1 (List.of_mem_zip c).1,if_pos hk];simp
 |p::P,w::vs,i+1,m,nd,a,b,hk=>by
  show bindL kindOf ((p,w)::P.zip vs) m x=_;unfold bindL;exact rT (i:=i) (zZ4.mp nd).2 (by simpa using a) (by simpa using b) hk
theorem qk {kindOf:Str->Option NameKind}{x:Str}{v:Value}:∀{P:List Str}{vs:List Value}{i:Nat}{m:Str->Option Value},P.Nodup->P[i]?=some x->vs[i]?=some v->kindOf x≠some .local->
  bindC kindOf (P.zip vs) m x=some v
 |[],_,_,_,_,h,_,_=>by simp at h
 |_::_,[],_,_,_,_,h,_=>by simp at h
 |p::P,w::vs,0,m,nd,a,b,hk=>by
  simp at a b;subst a;subst b;show bindC kindOf ((p,w)::P.zip vs) m p=_;unfold bindC;rw[qg λv c=>(zZ4.mp nd).1 (List.of_mem_zip c).1,if_neg hk];simp
 |p::P,w::vs,i+1,m,nd,a,b,hk=>by
  show bindC kindOf ((p,w)::P.zip vs) m x=_;unfold bindC;exact qk (i:=i) (zZ4.mp nd).2 (by simpa using a) (by simpa using b) hk
def start (N:List Str)(vs:List V):St:=vs.map some++List.replicate (N.length-vs.length) none
def wq (CX:CXT)(P:Program)(w:World)(K:PySem.W.Frag)(mg:Str->Option Value)(base:Heap)(N:List Str)(qual:Str)(scope:Scope)(f:Addr)(cd:Value)(A:Around)(outer:List Env)(s:Shared)(H:Hp)(E:XK):Cx where
 prog:=P
 w:=w
 K:=K
 mg:=mg
 base:=base
 A:=A.deeper (envOfC qual scope s.heap.objs.size f cd)
 N:=N
 s₀:=s
 H₀:=H
 env:=envOfC qual scope s.heap.objs.size f cd
 outer:=outer
 stack:=envOfC qual scope s.heap.objs.size f cd::outer
 ex:=[]
 calm:=true
 fn:=λ_=>true
 pn:=[]
 xe:=λe s'=>wpAny (model P w) (A.deeper (envOfC qual scope s.heap.objs.size f cd)) (leaving (envOfC qual scope s.heap.objs.size f cd) e) (λ_ a=>CX outer H s E e a) (λb a=>CX outer H s E b a) s'
theorem ni {sc:Scope}{n:Nat}{x:Str}(h:sc.names.lookup x=some .cell):∃c,(cellsFrom n sc.names []).lookup x=some c:=by
 have q:=PySem.W.cellsFrom_some sc.names n [] (.inl h);exact Option.isSome_iff_exists.mp q
theorem ig {CX:CXT}{P:Program}{w:World}{K:PySem.W.Frag}{mg:Str->Option Value}{base:Heap}{N ps:List Str}{qual:Str}{scope:Scope}{f:Addr}{cd:Value}{A:Around}{outer:List Env}{s s1:Shared}{H:Hp}{E:XK}{us:List Value}{vs:List V}
  (S:zT N ps scope) (hd:A.handled=none) (g:uG P w K mg base A outer s H) (B:vs.length=ps.length) (r:Vals vs us)
  (x:InCallC s s.heap.objs.size (bindL (envOfC qual scope s.heap.objs.size f cd).kindOf (ps.zip us) λ_=>none) (cellsFrom (s.heap.objs.size+1) scope.names []) (bindC (envOfC qual scope s.heap.objs.size f cd).kindOf (ps.zip us) λ_=>none) s1):
  Inv (wq CX P w K mg base N qual scope f cd A outer s H E) [] (start N vs) H s1:=by
 have hpl:ps.length<=N.length:=by have:=congrArg List.length S.pre;rw[zO9]at this;exact zK1 (zL7 this.symm) (Nat.min_le_right _ _)
 obtain⟨o,tk,rfl,hk⟩:=x.done;have j:∀b:Addr,b∉(wq CX P w K mg base N qual scope f cd A outer s H E).ex:=λb z=>absurd (show b∈([]:List Addr)from z) (by simp);refine⟨⟨g.mod,S.kind,rfl,rfl,zJ0 _,λy z c o d=>?_,λy hy=>?_,λy c _ h=>?_,λ_=>hd,Around.frames_deeper g.frames,.inr ⟨rfl,rfl⟩,λb z=>absurd z (j b),g.bs,g.bsz,λb _ _=>j b,λb z=>absurd z (j b),g.funs,g.frf⟩,
  rfl,g.bare,Un.kept hk,⟨_,x.toInCall.ns,λi y v o d D=>?_⟩,λy c h=>⟨_,x.cell y c h⟩,g.hok.fresh (zJ0 _),λy c h=>?_,λp l=>absurd (show p∈([]:List (Addr×Obj))from l) (by simp),g.hok.kept hk,?_⟩
 ·exact name_of_addr x.apart (zP2 o) (zP2 d)
 ·have hy:scope.names.lookup y=some .cell\/scope.names.lookup y=some .free:=hy;rcases hy with hy|hy
  ·exact ni hy
  ·exact absurd rfl (S.nofree _ (zP2 hy))
 ·exact zN6 (x.above y c (zP2 h))
 ·have hi:i<vs.length:=by
   unfold start at d;by_cases hi:i<vs.length
   ·exact hi
   ·rw[zQ5 (by simpa using hi)]at d;rw[zQ2]at d;split at d<;>cases d
  have ha:vs[i]?=some v:=by
   unfold start at d;rw[zO6 (by simpa using hi),zK0]at d;cases e:vs[i]? with
   |none=>rw[e]at d;cases d
   |some a=>rw[e]at d;cases d;rfl
  obtain⟨u,t,C⟩:=r.get ha;have l:ps[i]?=some y:=by rw[<-S.pre,List.getElem?_take_of_lt (zI9 hi (zL7 B))];exact o
  have m:ps.Nodup:=by rw[<-S.pre];exact S.nd.sublist (zU0 _ _)
  refine⟨u,C,?_⟩;rcases S.par y (zL8 l)with k|k
  ·exact .inl ⟨k,rT m l t k⟩
  ·obtain⟨c,e⟩:=ni (n:=s.heap.objs.size+1) k;refine .inr ⟨.inl k,c,e,?_⟩;have q:=x.cell y c e;rw[qk m l t (by show scope.names.lookup y≠_;rw[k];decide)]at q;exact q
 ·exact g.hok.fresh (zN6 (x.above y c (zP2 h)))
 ·unfold start;show _=N.length;rw[zL4,zI5,List.length_replicate];exact zD5 B hpl
theorem eZ {CX:CXT}{P:Program}{w:World}{K:PySem.W.Frag}{mg:Str->Option Value}{base:Heap}{k:Nat}{f:Addr}{name qual:Str}{params:Arguments}{body:List Stmt}{scope:Scope}{dV kV doc pm cdv ct oc:Value}{an od:Option Addr}
  {osl:Array (Option Value)} {N ps:List Str} {sp:Sp} (C:K.lookup f=some ⟨oc,od,.func (PySem.W.fnOf name qual params body scope dV kV doc pm an cdv ct),osl⟩) (l:PySem.W.codeIn K cdv qual=true) (S:zT N ps scope)
  (len:∀vs H Q E,sp vs H Q E->vs.length=ps.length)
  (d:∀(A:Around) (outer:List Env) (s:Shared) (H:Hp) (vs:List V) (Q:VK) (E:XK),zI k (A.deeper (envOfC qual scope s.heap.objs.size f cdv))->sp vs H Q E->
   ∃t,PSs (wq CX P w K mg base N qual scope f cdv A outer s H E) body t/\t {nx:=λ_ H'=>Q .non H',rt:=Q} (start N vs) H):
  yE P w K mg base CX (k+1) f (PySem.W.fnOf name qual params body scope dV kV doc pm an cdv ct) ps sp:=by
 refine⟨len,λA outer s H args us vs Q E hr h hb r j=>?_⟩;have B:=len _ _ _ _ j;have p:K.In s.heap:=h.mod.kin.keeps λb o e=>(h.bs b o e).1;have lim:s.heap.NoLimit:=h.mod.nolimit.keeps λb o e=>(h.bs b o e).1;have c:∀y∈ps.zip us,scope.names.lookup y.1=some .local\/(scope.names.lookup y.1=some .cell/\((cellsFrom (s.heap.objs.size+1) scope.names []).lookup y.1).isSome=true):=λi hy=>by
  obtain⟨n,v⟩:=i;rcases S.par n (List.of_mem_zip hy).1 with q|q
  ·exact .inl q
  ·exact .inr ⟨q,PySem.W.cellsFrom_some _ _ _ (.inl q)⟩
 refine codeAny_call_function hr.depth (p _ _ C) rfl S.co S.gen rfl (PySem.W.codeRec_of p l) (hb _ _ _ _ ?_);refine wpAny_newFunctionEnv_cells S.kind c λenv he s1 x=>?_;subst he;refine⟨lim.keeps x.toInCall.keep,codeAny_func ?_⟩;obtain⟨t,D,hq⟩:=d A outer s H vs Q E (hr.deeper _) j;have I:Inv (wq CX P w K mg base N qual scope f cdv A outer s H E) [] (start N vs) H s1:=ig S hr.hd h B r x;refine zN9 (D [] s1 (start N vs) H _ I hq) (λz s' g=>?_) λe s' g=>g;have fin:∀{a:St} {H':Hp} {v:V} {u:Value},Inv (wq CX P w K mg base N qual scope f cdv A outer s H E) [] a H' s'->RelV v u->Q v H'->CE outer P w H s Q u s':=
  λ{a H' v u} J m q=>⟨v,H',J.os,J.bare,J.base,J.hok,m,q⟩
 cases z with
 |ret u=>
  obtain⟨v,a,H',J,m,q⟩:=g;exact fin J m q
 |next=>
  obtain⟨a,H',J,q⟩:=g;exact fin (v:=V.non) (u:=Value.none) J rfl q
 |brk=>
  obtain⟨_,_,_,q⟩:=g;exact False.elim q
 |cont=>
  obtain⟨_,_,_,q⟩:=g;exact False.elim q
section
variable {X:Cx}{x:Str}{p pos:Pos}{e:Expr}{es:List Expr}{t:TA}{id T:String}{r:List V->Hp->VK->Prop}
def tCB (r:List V->Hp->VK->Prop)(t:TA):TE:=λσ H Q=>t σ H λvs H1=>r vs H1 Q
theorem vW (d:xx X (.builtin id) r)(hg:Gl X x)(hm:X.mg x=none)(f:bootBuiltins x=some (.builtin id))(ha:PA X (e::es) t)(hn:x≠"__name__":=by decide)(b:(x == ("__debug__":Str))=false:=by decide)
  (he:starEach (e::es) X.env=(false,eval e X.env)::starEach es X.env:=by rfl) (hpl:(backTo pos (starEach es X.env)).any (·.1)=false:=by rfl):PE X (.Call (.Name x p) (e::es) [] pos) (tCB r t):=by
 intro pins s σ H Q I h;refine zX1 (xF I hg hm f ?_ hn b);exact PyProof.Rows.callWith_builtin1 (thn (ha pos pins s σ H _ I h) λus s1 a=>by obtain⟨vs,H1,c,i,g⟩:=a;exact d pins s1 σ H1 vs us Q c i g) he hpl
theorem uc (d:xx X (.type T) r)(hg:Gl X x)(hm:X.mg x=none)(f:bootBuiltins x=some (.type T))(ha:PA X (e::es) t)(hn:x≠"__name__":=by decide)(b:(x == ("__debug__":Str))=false:=by decide)
  (he:starEach (e::es) X.env=(false,eval e X.env)::starEach es X.env:=by rfl) (hpl:(backTo pos (starEach es X.env)).any (·.1)=false:=by rfl):PE X (.Call (.Name x p) (e::es) [] pos) (tCB r t):=by
 intro pins s σ H Q I h;refine zX1 (xF I hg hm f ?_ hn b);exact zP3 (thn (ha pos pins s σ H _ I h) λus s1 a=>by obtain⟨vs,H1,c,i,g⟩:=a;exact d pins s1 σ H1 vs us Q c i g) he hpl
end
end L2
namespace HT
open PySem PyProof.Rows
section
open PySem.SeqAt
open PySem.AutoSeq1 (wpAny_loadPart')
open PySem.MeetsSeq PySem.MeetsSeq2 PySem.MeetsSeq3
end
section
variable {prog:Program}{w:World}{A:Around}{E:Value->Shared->Prop}{s:Shared}
def sIx (n d:Nat):Option Int->Nat
 |none=>d
 |some v=>if v<0 then(v+(n:Int)).toNat else min v.toNat n
theorem dY (n d:Nat):sIx n d none=d:=rfl
theorem af (n d k:Nat):sIx n d (some (k:Int))=min k n:=by
 show(if(k:Int)<0 then((k:Int)+(n:Int)).toNat else min (k:Int).toNat n)=min k n;rw[if_neg (Int.not_lt.2 (z37 _)),zQ7]
end
end HT
namespace L2
open PySem PySem.Spec PyProof.Rows
abbrev TO :=St->Hp->(Option Int->Hp->Prop)->Prop
def PO (X:Cx)(e:Option Expr)(t:TO):Prop:=
 ∀(pins:List (Addr×Obj)) (s:Shared) (σ:St) (H:Hp) (Q:Option Int->Hp->Prop),Inv X pins σ H s->t σ H Q->
  wpAny (model X.prog X.w) X.A (evalPart e X.env) (λu s'=>∃o H',Inv X pins σ H' s'/\IsPart u o/\Q o H') X.xe s
def bj :TO:=λ_ H Q=>Q none H
def zD0 (t:TE):TO:=λσ H Q=>t σ H λx H1=>∃i,x=.int i/\Q (some i) H1
theorem intsAre_of {ns:List Int}:∀{us:List Value},Vals (ns.map V.int) us->IntsAre us ns:=by
 induction ns with
 |nil=>intro us r;rw[List.map_nil]at r;cases r;exact .nil
 |cons n ns c=>
  intro us r;rw[zM9]at r;cases r with
  |cons a b=>
   obtain⟨t,e⟩:=a;subst e;exact .cons n t (c b)
section
variable {X:Cx}{e:Expr}{te:TE}{lo hi:Option Expr}{tl th:TO}{pos p2:Pos}
theorem kA :PO X none bj:=by
 intro pins s σ H Q I h;rw[evalPart_none];exact zI6 ⟨none,H,I,.none,h⟩
theorem ki (h:PE X e te):PO X (some e) (zD0 te):=by
 intro pins s σ H Q I hw;rw[evalPart_some];refine thn (h pins s σ H _ I hw) λu s1 a=>?_;obtain⟨x,H1,b,d,c⟩:=a;obtain⟨i,rfl,q⟩:=c;obtain⟨t,rfl⟩:=d;exact⟨some i,H1,b,.int i t,q⟩
def SlR (X:Cx)(r:V->Option Int->Option Int->Hp->VK->Prop):Prop:=
 ∀(pins:List (Addr×Obj)) (s:Shared) (σ:St) (H:Hp) (x:V) (v b a:Value) (lo hi:Option Int) (sl:Addr) (Q:VK),Inv X pins σ H s->RelV x v->s.heap.IsSliceOf sl b a .none->IsPart b lo->IsPart a hi->r x lo hi H Q->
  ∃T id,typeLookup (.type T) "__getitem__"=pure (some (.builtin id))/\s.TypeIs v T/\wpAny (model X.prog X.w) X.A (getItem v (.ref sl)) (EP X pins σ Q) X.xe s
def tSl (r:V->Option Int->Option Int->Hp->VK->Prop)(te:TE)(tl th:TO):TE:=λσ H Q=>te σ H λx H1=>tl σ H1 λl b=>th σ b λu a=>r x l u a Q
theorem ou {r:V->Option Int->Option Int->Hp->VK->Prop}(hr:SlR X r)(he:PE X e te)(t:PO X lo tl)(g:PO X hi th):PE X (.Subscript e (.Slice lo hi none p2) pos) (tSl r te tl th):=by
 intro pins s σ H Q I h;refine Subscript_ (thn (he pins s σ H _ I h) λv s1 ⟨x,H1,p,m,k⟩=>?_);refine wpAny_Slice (thn (t pins s1 σ H1 _ p k) λa s2 ⟨l,y,j,pl,n⟩=>thn (g pins s2 σ y _ j n) λc s3 ⟨u,d,z,pu,f⟩=>?_);rw[evalPart_none];refine zI6 ?_;have o:Inv X pins σ d {s3 with heap:=s3.heap.push {cls:=.type "slice",data:=.fields #[a,c,.none]}}:=z.kept (t':=s3.toks) λb ob q=>zI4 _ q;obtain⟨T,id,i,B,hg⟩:=hr pins {s3 with heap:=s3.heap.push {cls:=.type "slice",data:=.fields #[a,c,.none]}} σ d x v a c l u s3.heap.objs.size Q o m (Heap.IsSliceOf.new ..) pl pu f;show wpAny (model X.prog X.w) X.A (subscriptTail e (.Slice lo hi none p2) v (.ref s3.heap.objs.size)) (EP X pins σ Q) X.xe {s3 with heap:=s3.heap.push {cls:=.type "slice",data:=.fields #[a,c,.none]}};exact tail_any (ops:=[.ref s3.heap.objs.size,v]) B i hg (by with_unfolding_all rfl)
def pL (xs:List V)(lo hi:Option Int):List V:=(xs.drop (HT.sIx xs.length 0 lo)).take (HT.sIx xs.length xs.length hi-HT.sIx xs.length 0 lo)
theorem oQ (xs:List V)(lo hi:Option Int):(pL xs lo hi).length<=xs.length:=by
 unfold pL;rw[zO9,zW3];exact zK1 (Nat.min_le_right _ _) (Nat.sub_le _ _)
end
def ixN (n:Nat)(i:Int):Option Nat:=if 0<=i then(if i<n then some i.toNat else none)else if -(n:Int)<=i then some (i+n).toNat else none
def atI {α:Type}(xs:List α)(i:Int):Option α:=(ixN xs.length i).bind λj=>xs[j]?
theorem kX {n:Nat}{i:Int}{j:Nat}(h:ixN n i=some j):seqIndex? i n=some j/\j<n/\-(n:Int)<=i/\i<n:=by
 unfold ixN at h;by_cases h0:0<=i
 ·rw[if_pos h0]at h;by_cases a:i<n
  ·rw[if_pos a]at h;have e:i.toNat=j:=zM7 h;exact⟨by rw[seqIndex_of h0 a,e],by lia,by lia,a⟩
  ·rw[if_neg a]at h;cases h
 ·rw[if_neg h0]at h;by_cases a:-(n:Int)<=i
  ·rw[if_pos a]at h;have e:(i+n).toNat=j:=zM7 h;exact⟨by rw[seqIndex_neg (z27.1 h0) a,e],by lia,a,(z38 (z27.1 h0) (z37 _))⟩
  ·rw[if_neg a]at h;cases h
theorem qH {α:Type}{xs:List α}{i:Int}{v:α}(h:atI xs i=some v):∃j,seqIndex? i xs.length=some j/\xs[j]?=some v/\j<xs.length/\-(xs.length:Int)<=i/\i<xs.length:=by
 unfold atI at h;cases e:ixN xs.length i with
 |none=>rw[e]at h;cases h
 |some j=>
  rw[e]at h;obtain⟨a,b,c,d⟩:=kX e;exact⟨j,a,h,b,c,d⟩
theorem wR {α:Type}{xs:List α}{j:Nat}{v:α}(h:xs[j]?=some v):atI xs (j:Int)=some v:=by
 have a:j<xs.length:=(zI8.mp h).1;have e:ixN xs.length (j:Int)=some j:=by
  unfold ixN;rw[if_pos (z37 _),if_pos (Int.ofNat_lt.2 a)];simp
 unfold atI;rw[e];exact h
def qx (b:Expr):Prop:=∀o i,subscripted b false o i=operate [o,i] (getItem o i)
def IxR (X:Cx)(r:R2):Prop:=
 ∀(value slice:Expr) (pins:List (Addr×Obj)) (s:Shared) (σ:St) (H:Hp) (x y:V) (v u:Value) (Q:VK),Inv X pins σ H s->RelV x v->RelV y u->r x y H Q->
  subscripted slice false v u=operate [v,u] (getItem v u)->wpAny (model X.prog X.w) X.A (subscriptTail value slice v u) (EP X pins σ Q) X.xe s
def MtR (X:Cx)(id:String)(r:V->List V->Hp->VK->Prop):Prop:=
 ∀(pins:List (Addr×Obj)) (s:Shared) (σ:St) (H:Hp) (x:V) (xs:List V) (v:Value) (us:List Value) (Q:VK),Inv X pins σ H s->RelV x v->Vals xs us->r x xs H Q->
  wpAny (model X.prog X.w) X.A (call (.builtin id) (v::us)) (EP X pins σ Q) X.xe s
section
variable {X:Cx}{a b:Expr}{ta tb:TE}{pos:Pos}
theorem IxR.or {r c:R2}(h:IxR X r)(h':IxR X c):IxR X (λx y H Q=>r x y H Q\/c x y H Q):=by
 intro value slice pins s σ H x y v u Q I f d q e;rcases q with q|q
 ·exact h value slice pins s σ H x y v u Q I f d q e
 ·exact h' value slice pins s σ H x y v u Q I f d q e
theorem vc {r:R2}(hr:IxR X r)(ha:PE X a ta)(hb:PE X b tb)(f:qx b):PE X (.Subscript a b pos) (tOp r ta tb):=by
 intro pins s σ H Q I h;exact Subscript_ (zt8 ha hb I h λv u s2 x y e d g c q=>hr a b pins s2 σ e x y v u Q d g c q (f _ _))
def zA7 (K:PySem.W.Frag):R2:=λx y H Q=>∃p xs i v,x=.ref p/\y=.int i/\SqL K H p xs/\atI xs i=some v/\Q v H
def zn1 (K:PySem.W.Frag):R2:=λx y H Q=>∃p xs i v,x=.ref p/\y=.int i/\SqT K H p xs/\atI xs i=some v/\Q v H
def zB2 :R2:=λx y H Q=>∃z i c,x=.str z/\y=.int i/\z.length<=sizeLine/\atI z.cps.toList i=some c/\Q (.str ⟨#[c]⟩) H
theorem xh :IxR X (zA7 X.K):=by
 intro value slice pins s σ H x y v u Q I n A h g;obtain⟨p,xs,i,z,rfl,rfl,hq,he,q⟩:=h;cases n;obtain⟨t,rfl⟩:=A;obtain⟨its,r,pl,hz⟩:=I.list hq;obtain⟨j,c,m,B,l,k⟩:=qH he;obtain⟨w,f,d⟩:=r.get m;have o:=r.length;have hn:=uo;have fin:EP X pins σ Q w s:=⟨z,H,I,d,q⟩;by_cases h0:0<=i
 ·have e:i.toNat=j:=by
   rw[seqIndex_of h0 k]at c;exact zM7 c
  exact item_listR pl.isList h0 (cO hn k hz) (by rw[e];simpa using f) fin g
 ·have e:(i+(its.toArray.size:Int)).toNat=j:=by
   rw[seqIndex_neg (z27.1 h0) l]at c;rw[zK7,<-o];exact zM7 c
  exact subscriptTail_builtinR (x:=w) pl.isList.typeIs slot_list_getitem.lookup
   (wpAny_getItem_list_neg (Q:=λr s'=>r=w/\EP X pins σ Q r s') pl.isList (z27.1 h0) (by rw[zK7]<;>lia) (de l hz hn) (by rw[e];simpa using f) ⟨rfl,fin⟩) g
theorem cQ :IxR X (zn1 X.K):=by
 intro value slice pins s σ H x y v u Q I g l h f;obtain⟨p,xs,i,z,rfl,rfl,hq,he,q⟩:=h;cases g;obtain⟨t,rfl⟩:=l;obtain⟨its,r,pl,hz⟩:=I.tuple hq;obtain⟨j,n,d,A,o,m⟩:=qH he;obtain⟨w,e,c⟩:=r.get d;have k:=r.length;have hn:=uo;have fin:EP X pins σ Q w s:=⟨z,H,I,c,q⟩;exact subscriptTail_builtinR (x:=w) pl.typeIs slot_tuple_getitem.lookup
  (getItem_tuple (j:=j) (Q:=λr s'=>r=w/\EP X pins σ Q r s') pl (de o hz hn) (cO hn m hz) (by rw[zK7,<-k];exact n) (by simpa using e) ⟨rfl,fin⟩) f
theorem zk7 :IxR X zB2:=by
 intro value slice pins s σ H x y v u Q I n f h l;obtain⟨z,i,c,rfl,rfl,hz,he,q⟩:=h;obtain⟨t,rfl⟩:=n;obtain⟨t',rfl⟩:=f;obtain⟨j,d,k,p,o,g⟩:=qH he;have e:z.cps.toList.length=z.length:=by simp[Str.length]
 rw[e]at d o g;have hn:=uo;exact tail_any (typeIs_str s z t) slot_str_getitem.lookup (getItem_str (c:=c) (by
  have e1:decide (i < -(2 ^ 63:Int))=false:=zL2 (by lia);have m:decide (i≥2 ^ 63)=false:=zL2 (by lia);rw[e1,m,Bool.or_false]) (by rw[d];simpa using k) ⟨.str ⟨#[c]⟩,H,I.tok _,⟨_,rfl⟩,q⟩) l
def rIx (K:PySem.W.Frag):R2:=λx y H Q=>zA7 K x y H Q\/zn1 K x y H Q\/zB2 x y H Q
theorem zn9 :IxR X (rIx X.K):=xh.or (cQ.or zk7)
theorem mZ (its:List Value)(n j:Nat)(u:Value):Obj.mapSeq (·.setIfInBounds j u) {cls:=.type "list",data:=.seq its.toArray n}={cls:=.type "list",data:=.seq (its.set j u).toArray n}:=by simp[Obj.mapSeq]
theorem Inv.lst {pins:List (Addr×Obj)}{σ:St}{H:Hp}{s:Shared}{p:Addr}{xs:List V}(I:Inv X pins σ H s)(h:H p=some (.lst xs)):
  ∃(its:List Value) (n:Nat),Vals xs its/\s.heap.get? p=some {cls:=.type "list",data:=.seq its.toArray n}/\xs.length<=sizeLine:=by
 obtain⟨z,its,n,r,e⟩:=I.hok p _ h;exact⟨its,n,r,e,z⟩
theorem Inv.lstUpd {pins:List (Addr×Obj)}{σ:St}{H:Hp}{s:Shared}{p:Addr}{xs ys:List V}{its its':List Value}{n c:Nat}{f:Obj->Obj}(I:Inv X pins σ H s)(h:H p=some (.lst xs))
  (d:s.heap.get? p=some {cls:=.type "list",data:=.seq its.toArray n}) (hf:f {cls:=.type "list",data:=.seq its.toArray n}={cls:=.type "list",data:=.seq its'.toArray c}) (r:Vals ys its') (hz:ys.length<=sizeLine) (t:Nat):
  Inv X pins σ (upd H p (.lst ys)) {s with heap:=s.heap.update p f,toks:=t}:=by
 have e:(s.heap.update p f).get? p=some {cls:=.type "list",data:=.seq its'.toArray c}:=by rw[zV0 f d (by rw[hf]<;>rfl),hf]
 refine I.write (x:=p) (e:=p) (by rw[h];trivial) (.inl rfl) (λb u hb q=>(zN5 _ _ (zN4 hb)).trans q) ⟨_,e⟩ ?_;exact⟨hz,its',c,r,e⟩
def zf5 :V->V->V->Hp->(Hp->Prop)->Prop:=λo i v H Q=>∃p xs k j,o=.ref p/\i=.int k/\H p=some (.lst xs)/\ixN xs.length k=some j/\Q (upd H p (.lst (xs.set j v)))
theorem set_list :zC4 X zf5:=by
 intro pins s σ H o i v C A u Q I w z x h;obtain⟨p,xs,k,j,rfl,rfl,m,y,q⟩:=h;cases w;obtain⟨t,rfl⟩:=z;obtain⟨its,n,r,d,hz⟩:=I.lst m;obtain⟨c,B,f,g⟩:=kX y;have e:=r.length;have hn:=uo;have l:Inv X pins σ (upd H p (.lst (xs.set j v))) {s with heap:=s.heap.update p (Obj.mapSeq (·.setIfInBounds j u))}:=
  I.lstUpd m d (mZ its n j u) (r.set x j) (by rw[zP5];exact hz) s.toks
 by_cases h0:0<=k
 ·have hk:k.toNat=j:=by
   rw[seqIndex_of h0 g]at c;exact zM7 c
  exact PySem.W.ki_setAt d h0 (cO hn g hz) (by rw[zK7,<-e];exact g) (by rw[hk];exact⟨_,l,q⟩)
 ·have hk:(k+(its.toArray.size:Int)).toNat=j:=by
   rw[seqIndex_neg (z27.1 h0) f]at c;rw[zK7,<-e];exact zM7 c
  exact PySem.W.ki_setBack d (z27.1 h0) (by rw[zK7,<-e];exact f) (de f hz hn) (by rw[hk];exact⟨_,l,q⟩)
theorem qv (lo hi:Option Int)(n:Nat):(sliceBounds lo hi none n).1=((HT.sIx n 0 lo:Nat):Int)/\(sliceBounds lo hi none n).2.1=((HT.sIx n n hi:Nat):Int)/\(sliceBounds lo hi none n).2.2=1:=by
 refine⟨?_,?_,rfl⟩
 ·cases lo with
  |none=>simp[sliceBounds,HT.sIx]
  |some i=>
   simp only[sliceBounds,HT.sIx,Option.getD_none,show(1:Int) > 0 by decide,zY9];by_cases h:i<0
   ·simp only[h,zY9]<;>exact zj9 h
   ·simp only[h,zY2]<;>exact zc8
 ·cases hi with
  |none=>simp[sliceBounds,HT.sIx]
  |some i=>
   simp only[sliceBounds,HT.sIx,Option.getD_none,show(1:Int) > 0 by decide,zY9];by_cases h:i<0
   ·simp only[h,zY9]<;>exact zj9 h
   ·simp only[h,zY2]<;>exact zc8
theorem rp (its:List Value)(lo hi:Option Int):slicePick its.toArray lo hi none=((its.drop (HT.sIx its.length 0 lo)).take (HT.sIx its.length its.length hi-HT.sIx its.length 0 lo)).toArray:=by
 obtain⟨c,d,e⟩:=qv lo hi its.toArray.size;unfold slicePick;rw[c,d,e];simp only[sliceRange_one,pick_run,zK7]<;>rfl
def zG9 (K:PySem.W.Frag):V->Option Int->Option Int->Hp->VK->Prop:=λx lo hi H Q=>∃a xs,x=.ref a/\SqL K H a xs/\∀p,H p=none->Q (.ref p) (upd H p (.lst (pL xs lo hi)))
theorem lC :SlR X (zG9 X.K):=by
 intro pins s σ H x v g i lo hi sl Q I f e pl pu h;obtain⟨a,xs,rfl,d,q⟩:=h;cases f;obtain⟨its,r,c,hz⟩:=I.list d;have hlen:=r.length;refine⟨"list",_,slot_list_getitem.lookup,c.isList.typeIs,?_⟩;refine wpAny_getItem_list_slice c.isList e pl pu .none (by simp) ?_ (by rw[zK7]<;>exact zK1 (zL7 hlen.symm) hz);rw[rp,<-hlen];refine⟨.ref s.heap.objs.size,_,I.laid (t':=s.toks) (o:=.lst (pL xs lo hi)) (λb ob q=>zI4 _ q) (zJ0 _) ?_,rfl,q _ (I.hok.fresh (zJ0 _))⟩;exact⟨zK1 (oQ xs lo hi) hz,_,0,(r.drop (HT.sIx xs.length 0 lo)).take (HT.sIx xs.length xs.length hi-HT.sIx xs.length 0 lo),zJ4 _ rfl⟩
def vd :V->Bool
 |.non=>true
 |.bl _=>true
 |.int _=>true
 |.str _=>true
 |_=>false
def eqV :V->V->Bool
 |.non,.non=>true
 |.bl a,.bl b=>a == b
 |.bl a,.int b=>(if a then 1 else 0)==b
 |.int a,.bl b=>a == (if b then 1 else 0)
 |.int a,.int b=>a == b
 |.str a,.str b=>a == b
 |_,_=>false
theorem zl5 {A:Around}{s:Shared}{y x:V}{u v:Value}(d:RelV y u)(c:RelV x v)(f:vd y=true)(e:vd x=true):SeqAt.EqAt A s u v (eqV y x):=by
 cases y with
 |non=>
  cases d;cases x with
  |non=>cases c;exact SeqAt.EqAt.same _
  |bl b=>cases c;exact SeqAt.EqAt.none_bool b
  |int b=>obtain⟨t,rfl⟩:=c;exact SeqAt.EqAt.none_int b t
  |str b=>obtain⟨t,rfl⟩:=c;exact SeqAt.EqAt.none_str b t
  |_=>exact absurd (show false=true from e) zL3
 |bl a=>
  cases d;cases x with
  |non=>cases c;exact SeqAt.EqAt.bool_none a
  |bl b=>cases c;exact SeqAt.EqAt.bool_bool a b
  |int b=>obtain⟨t,rfl⟩:=c;exact SeqAt.EqAt.bool_int a b t
  |str b=>obtain⟨t,rfl⟩:=c;exact SeqAt.EqAt.bool_str a b t
  |_=>exact absurd (show false=true from e) zL3
 |int a=>
  obtain⟨t',rfl⟩:=d;cases x with
  |non=>cases c;exact SeqAt.EqAt.int_none a t'
  |bl b=>cases c;exact SeqAt.EqAt.int_bool a t' b
  |int b=>obtain⟨t,rfl⟩:=c;exact SeqAt.EqAt.int_int a t' b t
  |str b=>obtain⟨t,rfl⟩:=c;exact SeqAt.EqAt.int_str a t' b t
  |_=>exact absurd (show false=true from e) zL3
 |str a=>
  obtain⟨t',rfl⟩:=d;cases x with
  |non=>cases c;exact SeqAt.EqAt.str_none a t'
  |bl b=>cases c;exact SeqAt.EqAt.str_bool a t' b
  |int b=>obtain⟨t,rfl⟩:=c;exact SeqAt.EqAt.str_int a t' b t
  |str b=>obtain⟨t,rfl⟩:=c;exact SeqAt.EqAt.str_str a t' b t
  |_=>exact absurd (show false=true from e) zL3
 |_=>exact absurd (show false=true from f) zL3
def eqU (x:V)(u:Value):Bool:=match u with
 |.none=>eqV .non x
 |.bool b=>eqV (.bl b) x
 |.int i _=>eqV (.int i) x
 |.str z _=>eqV (.str z) x
 |_=>false
theorem gA {x y:V}{u:Value}(r:RelV y u)(f:vd y=true):eqU x u=eqV y x:=by
 cases y with
 |non=>cases r;rfl
 |bl b=>cases r;rfl
 |int i=>obtain⟨t,rfl⟩:=r;rfl
 |str z=>obtain⟨t,rfl⟩:=r;rfl
 |_=>exact absurd (show false=true from f) zL3
theorem kU {x:V}{xs:List V}{us:List Value}(h:Vals xs us)(f:xs.all vd=true):us.any (eqU x)=xs.any λy=>eqV y x:=by
 induction h with
 |nil=>rfl
 |cons r _ c=>
  rw[z40,zN3]at f;rw[zY6,zY6,gA r f.1,c f.2]
theorem sW {A:Around}{s:Shared}{x:V}{v:Value}(d:RelV x v)(e:vd x=true):∀{xs:List V}{us:List Value},Vals xs us->xs.all vd=true->∀u∈us,SeqAt.EqAt A s u v (eqU x u)
 |_,_,.nil,_=>λu c=>by cases c
 |y::xs,u::us,.cons r t,f=>λg c=>by
  rw[z40,zN3]at f;rcases zJ1.mp c with rfl|c
  ·rw[gA r f.1];exact zl5 r d f.1 e
  ·exact sW d e t f.2 g c
def inV (x:V)(xs:List V):Bool:=xs.any λy=>eqV y x
def rIn (K:PySem.W.Frag)(neg:Bool):R2:=λx y H Q=>∃p xs,y=.ref p/\(SqL K H p xs\/SqT K H p xs)/\vd x=true/\xs.all vd=true/\Q (.bl (if neg then !inV x xs else inV x xs)) H
theorem jT :OpR X (compareOp .In) (rIn X.K false):=by
 intro pins s σ H x y v u Q I c e h;obtain⟨p,xs,rfl,hq,d,fs,q⟩:=h;cases e;rcases hq with hq|hq
 ·obtain⟨its,r,pl,hz⟩:=I.list hq;refine SeqAt.in_listAt (eqU x) pl.isList (λw hw=>sW c d r fs w (by simpa using hw)) ⟨.bl _,H,I,rfl,?_⟩;rw[show its.toArray.any (eqU x)=its.any (eqU x) by simp,kU r fs];exact q
 ·obtain⟨its,r,pl,hz⟩:=I.tuple hq;refine SeqAt.in_tupleAt (eqU x) pl (λw hw=>sW c d r fs w (by simpa using hw)) ⟨.bl _,H,I,rfl,?_⟩;rw[show its.toArray.any (eqU x)=its.any (eqU x) by simp,kU r fs];exact q
theorem qP :xx X (.builtin "len") (λxs H Q=>∃p ys,xs=[.ref p]/\(SqL X.K H p ys\/SqT X.K H p ys)/\Q (.int ys.length) H):=by
 intro pins s σ H xs us Q I r h;obtain⟨p,ys,rfl,hq,q⟩:=h;obtain⟨u,rfl,d⟩:=vals1 r;cases d;have hn:=uo;rcases hq with hq|hq
 ·obtain⟨its,c,pl,hz⟩:=I.list hq;have hlen:=c.length;exact Calls.call_len_list pl.isList (by simp only[zK7]<;>exact zk0 hn hlen hz) ⟨.int ys.length,H,I.tok _,⟨s.toks+1,by rw[zK7,hlen]⟩,q⟩
 ·obtain⟨its,c,pl,hz⟩:=I.tuple hq;have hlen:=c.length;exact len_tuple pl (by simp only[zK7]<;>exact zk0 hn hlen hz) ⟨.int ys.length,H,I.tok _,⟨s.toks+1,by rw[zK7,hlen]⟩,q⟩
def tyV (K:PySem.W.Frag)(T:String)(x:V)(H:Hp):Prop:=match x with
 |.str _=>T="str"
 |.int _=>T="int"
 |.ref p=>(T="list"/\∃xs,SqL K H p xs)\/(T="tuple"/\∃o,K.lookup p=some o/\o.cls=.type "tuple"/\o.dict=none)\/
   (T="dict"/\((∃kvs,H p=some (.dK kvs))\/∃kvs,H p=some (.dT kvs)))\/(T="set"/\∃S n,H p=some (.set S n))
 |_=>False
theorem zm7 {pins:List (Addr×Obj)}{σ:St}{H:Hp}{s:Shared}{T:String}{x:V}{v:Value}(I:Inv X pins σ H s)(r:RelV x v)(ty:tyV X.K T x H):
  s.TypeIs v T/\∀a,v=.ref a->∃ob,s.heap.get? a=some ob/\ob.dict=none:=by
 cases x with
 |str z=>
  obtain⟨t,rfl⟩:=r;cases(show T="str" from ty);exact⟨typeIs_str s z t,λ_ e=>nomatch e⟩
 |int i=>
  obtain⟨t,rfl⟩:=r;cases(show T="int" from ty);exact⟨typeIs_int s i t,λ_ e=>nomatch e⟩
 |ref p=>
  cases r;rcases ty with⟨rfl,xs,hq⟩|⟨rfl,o,hk,f,hd⟩|⟨rfl,hk⟩|⟨rfl,S,n,hk⟩
  ·obtain⟨its,_,pl,_⟩:=I.list hq;refine⟨pl.isList.typeIs,λa e=>?_⟩;cases e;obtain⟨o,n,e,c,hd,_⟩:=pl;exact⟨o,e,hd⟩
  ·refine⟨⟨o,I.kIn p o hk,f⟩,λa e=>?_⟩;cases e;exact⟨o,I.kIn _ o hk,hd⟩
  ·have z:∃o,s.heap.get? p=some o/\o.ExactDict:=by
    rcases hk with⟨kvs,hk⟩|⟨kvs,hk⟩
    ·obtain⟨_,_,_,_,o,_,_,e,ex,_⟩:=I.hok p _ hk;exact⟨o,e,ex⟩
    ·obtain⟨_,_,_,_,o,_,_,e,ex,_⟩:=I.hok p _ hk;exact⟨o,e,ex⟩
   obtain⟨o,e,ex⟩:=z;refine⟨⟨o,e,ex.1⟩,λa d=>?_⟩;cases d;exact⟨o,e,ex.2.1⟩
  ·obtain⟨o,_,_,_,e,ex,_⟩:=I.hok p _ hk;refine⟨⟨o,e,ex.1⟩,λa d=>?_⟩;cases d;exact⟨o,e,ex.2.1⟩
 |_=>exact False.elim ty
def tBM (K:PySem.W.Frag)(T:String)(r:V->List V->Hp->VK->Prop)(to:TE)(t:TA):TE:=λσ H Q=>to σ H λx H1=>tyV K T x H1/\t σ H1 λxs c=>r x xs c Q
variable {o e:Expr}{es:List Expr}{to:TE}{t:TA}{name:Str}{apos cpos:Pos}{T id:String}{r:V->List V->Hp->VK->Prop}
theorem zi2 (D:PlainAttrs T)(slot:Slot T name id)(k:typeOf (.builtin id)=pure (.type "method_descriptor"))(hm:MtR X id r)(p:PE X o to)(ha:PA X (e::es) t)
  (d:attributeBase o name X.env (eval o X.env)=eval o X.env:=by rfl)
  (i:((backTo cpos (starEach (e::es) X.env)).all (λx=>!x.1)&&(backToKw cpos (keywordEach [] X.env)).all (λx=>x.1.isSome)
   &&decide ((e::es).length+([]:List Keyword).length+(if([]:List Keyword).isEmpty then 0 else 1)<30))=true:=by rfl)
  (f:(apos.endLine == cpos.line)=true:=by rfl) (y:starEach (e::es) X.env=(false,eval e X.env)::starEach es X.env:=by rfl) (c:(backTo cpos (starEach es X.env)).any (·.1)=false:=by rfl):
  PE X (.Call (.Attribute o name apos) (e::es) [] cpos) (tBM X.K T r to t):=by
 intro pins s σ H Q I h;refine wpAny_Call_method_late d i f rfl (thn (p pins s σ H _ I h) λv s1 g=>?_);obtain⟨x,H1,m,l,ty,z⟩:=g;obtain⟨B,q⟩:=zm7 m l ty;refine⟨T,id,D,slot,k,B,q,?_⟩;have n:=ha cpos pins s1 σ H1 _ m z;rw[y]at n ⊢;refine Calls.callWith_builtin (by show(false||(backTo cpos (starEach es X.env)).any (·.1))=false;rw[c]<;>rfl) (Calls.evalArgs_plain ?_);exact thn n λus s2 j=>by obtain⟨vs,C,w,u,A⟩:=j;exact hm pins s2 σ C x vs v us Q w l u A
/- xs.append(e),list.index on a module's tuple .. are MtR facts of 06m -/
end
def MtM (X:Cx)(id:String)(r:V->List V->Hp->VK->Prop):Prop:=
 ∀(pins:List (Addr×Obj)) (s:Shared) (σ:St) (H:Hp) (x:V) (xs:List V) (v:Value) (us:List Value) (Q:VK),Inv X pins σ H s->RelV x v->Vals xs us->r x xs H Q->
  wpAny (model X.prog X.w) X.A (call (.builtin id) (v::us)) (EP X pins σ Q) X.xe s
theorem Vals.one {x:V}{us:List Value}(h:Vals [x] us):∃u,us=[u]/\RelV x u:=by
 cases h with
 |cons r q=>cases q;exact⟨_,rfl,r⟩
theorem Vals.two {x y:V}{us:List Value}(h:Vals [x,y] us):∃u v,us=[u,v]/\RelV x u/\RelV y v:=by
 cases h with
 |cons r q=>
  cases q with
  |cons q z=>cases z;exact⟨_,_,rfl,r,q⟩
section
variable {X:Cx}{pins:List (Addr×Obj)}{σ:St}{H:Hp}{s:Shared}{l b:Addr}{xs ys zs:List V}
theorem Inv.lset {its its':List Value}{n:Nat}{f:Array Value->Array Value}{t':Nat}(I:Inv X pins σ H s)(c:H l=some (.lst xs))
  (e:s.heap.get? l=some {cls:=.type "list",data:=.seq its.toArray n}) (hf:f its.toArray=its'.toArray) (d:Vals ys its') (hz:ys.length<=sizeLine):
  Inv X pins σ (upd H l (.lst ys)) {s with heap:=s.heap.update l (Obj.mapSeq f),toks:=t'}:=by
 have q:=PySem.IsL.update e f;rw[hf]at q;refine I.write (x:=l) (e:=l) (by rw[c];exact trivial) (.inl rfl) (λg u hb a=>(zN5 s.heap (Obj.mapSeq f) (zN4 hb)).trans a) ⟨_,q⟩ ?_;exact⟨hz,its',_,d,q⟩
theorem Inv.lnew {its:List Value}{t':Nat}(I:Inv X pins σ H s)(a:Vals ys its)(hz:ys.length<=sizeLine):
  Inv X pins σ (upd H s.heap.objs.size (.lst ys)) {s with heap:=s.heap.push {cls:=.type "list",data:=.seq its.toArray},toks:=t'}:=
 I.laid (λ_ _ q=>zI4 _ q) (zJ0 _) ⟨hz,its,0,a,zJ4 _ rfl⟩
theorem Inv.fresh (I:Inv X pins σ H s):H s.heap.objs.size=none:=I.hok.fresh (zJ0 _)
theorem Inv.lstM (I:Inv X pins σ H s)(a:H l=some (.lst xs)):xs.length<=sizeLine/\∃(its:List Value) (n:Nat),Vals xs its/\xs.length=its.length/\s.heap.get? l=some {cls:=.type "list",data:=.seq its.toArray n}:=by
 obtain⟨z,its,n,r,e⟩:=I.hok l _ a;exact⟨z,its,n,r,r.length,e⟩
theorem fu {n:Nat}(h:n<=sizeLine):Builtin.List.listTooLong n=false:=by
 unfold Builtin.List.listTooLong;exact zL2 (Nat.not_lt_of_le h)
end
section
variable {X:Cx}
def aY :V->List V->Hp->VK->Prop:=λx vs H Q=>∃l xs y,x=.ref l/\vs=[y]/\H l=some (.lst xs)/\xs.length<sizeLine/\Q .non (upd H l (.lst (xs++[y])))
theorem qo :MtM X "list.append" aY:=by
 intro pins s σ H x vs v us Q I f d h;obtain⟨l,xs,y,rfl,rfl,a,hz,q⟩:=h;cases f;obtain⟨u,rfl,c⟩:=d.one;obtain⟨z,its,n,r,b,e⟩:=I.lstM a;refine call_meets F.slot_list_append ⟨_,e,rfl⟩ F.entry_list_append (F.args_list_append_2 _ _) (PySem.list_append l its.toArray n u (by rw[zK7];exact zN6 (zK9 (zL7 b.symm) hz))) ⟨e,?_⟩;refine⟨.non,_,I.lset (its':=its++[u]) a e (by simp) (r.append (.cons c .nil)) ?_,rfl,q⟩;rw[zL4,List.length_singleton];exact hz
def aC :V->List V->Hp->VK->Prop:=λx vs H Q=>∃l b xs zs,x=.ref l/\vs=[.ref b]/\H l=some (.lst xs)/\H b=some (.lst zs)/\xs.length+zs.length<=sizeLine/\Q .non (upd H l (.lst (xs++zs)))
theorem jO :MtM X "list.extend" aC:=by
 intro pins s σ H x vs v us Q I o p h;obtain⟨l,b,xs,zs,rfl,rfl,g,t,hz,q⟩:=h;cases o;obtain⟨u,rfl,j⟩:=p.one;cases j;obtain⟨z,its,n,r,i,e⟩:=I.lstM g;obtain⟨w,a,n2,k,f,m⟩:=I.lstM t;have d:its.toArray.size+a.toArray.size<=sizeLine:=by rw[zK7,zK7];exact zj6 hz i f
 have c:¬(!its.toArray.isEmpty&&Builtin.List.listTooLong (its.toArray.size+a.toArray.size))=true:=by
  rw[fu d,Bool.and_false];exact zL3
 refine call_meets F.slot_list_extend ⟨_,e,rfl⟩ F.entry_list_extend (F.args_list_extend_2 _ _)
  (AutoSeq1.list_extend_list_list_0 l its.toArray n b a.toArray n2 c (by rw[zK7];exact zK1 (zL7 i.symm) z) (zK1 d (zL0 _ _))) ⟨e,m,?_⟩
 refine⟨.non,_,I.lset (its':=its++a) g e (by simp) (r.append k) ?_,rfl,q⟩;rw[zL4];exact hz
def zF6 :R2:=λx y H Q=>∃l b xs zs,x=.ref l/\y=.ref b/\H l=some (.lst xs)/\H b=some (.lst zs)/\xs.length+zs.length<=sizeLine/\∀p,H p=none->Q (.ref p) (upd H p (.lst (xs++zs)))
theorem hJ :OpR X (binaryOp .Add) zF6:=by
 intro pins s σ H x y v u Q I o i h;obtain⟨l,b,xs,zs,rfl,rfl,g,m,hz,q⟩:=h;cases o;cases i;obtain⟨z,its,n,r,f,e⟩:=I.lstM g;obtain⟨p,a,n2,j,c,k⟩:=I.lstM m;refine PySem.P.add_list e k ?_ (by rw[zK7,zK7];exact zj6 hz f c);have d:its.toArray++a.toArray=(its++a).toArray:=by simp
 rw[d];exact⟨.ref _,_,I.lnew (t':=s.toks) (r.append j) (by rw[zL4];exact hz),rfl,q _ I.fresh⟩
end
section
variable {prog:Program}{w:World}{A:Around}{E:Value->Shared->Prop}{s:Shared}
end
section
variable {X:Cx}
end
end L2
namespace Att
open PySem PySem.W PySem.Calls PyProof.Rows
theorem uZ {P:Params}{h:Heap}:∀(ns:List Int) (vs:List Value),WellAll P h vs (ns.map WData.int)->IntsAre vs ns:=by
 intro ns
 induction ns with
 |nil=>
  intro vs w;rw[List.map_nil]at w;cases w;exact .nil
 |cons n ns c=>
  intro vs w;rw[zM9]at w;cases w with
  |cons a b=>
   cases a;exact .cons _ _ (c _ b)
theorem jL {l:OpenLaw}{n:Nat}(hn:l.most=some n){P:Params}{h:Heap}{args:List WData}{vals:List Value}
  (b:l.row.toRowW.claim.pre args=true) (g:WellAll P h vals args):
  ∃a vs ns,vals=[Value.ref a]/\args=[WData.list (ns.map WData.int)]/\h.get? a=some {cls:=.type "list",data:=.seq vs.toArray}/\IntsAre vs ns/\ns.length<=n:=by
 have i:WShape.hasAll [] args [.list .int]=true:=(pre_splitW b).1;have j:l.pre.holds [] {args:=args}=true:=(pre_splitW b).2;obtain⟨d,r,rfl,s,p⟩:=hasAllW_cons i;obtain rfl:=hasAllW_nil p;obtain⟨xs,rfl,t⟩:=hasW_list s;obtain⟨ns,rfl⟩:=items_int t;have hlen:ns.length<=n:=by
  unfold OpenLaw.pre at j;have e:(WTm.not (.lt (.lit (.int (n:Int))) (.len (.arg 0)))).holds [] {args:=[.list (ns.map .int)]}=true:=by
   have e:=(holds_andW j).1;rw[hn]at e;exact e
  have f:=condW_of e (w_not (w_lt w_lit (w_len_list (w_arg rfl))));rw[zI5]at f;refine zT0 λq=>?_;have m:(n:Int)<((ns.length:Nat):Int):=(Int.ofNat_lt.2 q)
  first
   |(rw[zM1 m]at f;exact absurd f (by decide))
   |(simp at f;omega)
 cases g with
 |cons u k=>
  cases k;cases u with
  |list o c=>exact⟨_,_,ns,rfl,rfl,o,uZ ns _ c,hlen⟩
theorem jW (l:OpenLaw)(args:List WData):l.row.toRowW.claim.post args (.bool true) args=true:=
 postW_of (r:=l.row.toRowW) (X:=(true == true))
  (show WShape.has [] (.bool true) .bool=true by first|rfl|decide|simp[WShape.has,WShape.arms,WShape.armsAll])
  (show(WTm.eq .res (.lit (.bool true))).value [] {args:=args,res:=some (.bool true),after:=args}=some (.bool (true == true))from w_eq_bool (w_res rfl) w_lit) rfl
theorem attach_call {l:OpenLaw}{n:Nat}{q:Program}{loose:List Str}{p:(Str->Option Value)->Heap->Prop}{k:World->Heap->Prop}{d:DefRec}
  (hn:l.most=some n) (hdf:d.params.defaults=[])
  (call:∀(w:World) (s₀ b:Shared) (mg mb:Str->Option Value) (g:Addr) (o:Obj) (pm cd doc:Value) (a:Addr) (vs:List Value) (ns:List Int),
   Ground q loose [] p w s₀ mg mb b.heap->k w b.heap->
   b.heap.get? g=some o->o.data=.func (docDef d.name d.params d.body d.scope pm cd doc)->b.heap.CodeRec cd d.name->mg d.name=some (.ref g)->
   b.heap.get? a=some {cls:=.type "list",data:=.seq vs.toArray}->IntsAre vs ns->ns.length<=n->b.gens=#[]->
   codeAny (model l.prog w) callerA (.call (.ref g) ⟨[.ref a],[]⟩) (λr s'=>r=.ok (.ret (.bool true))/\OldK b.heap s'.heap/\s'.os=b.os/\AllBare s'.gens) b):
  WalkO q loose p k l.row.toRowW d [] (λf vs=>PySem.call f vs):=by
 intro w s₀ b mg mb G Y g o pm cd doc dV kV t hd j m i hg args vals as e s v h x;obtain rfl:dV=.none:=Dflts.none m hdf;obtain rfl:kV=.none:=Dflts.noKw m;obtain⟨a,vs,ns,rfl,rfl,c,hints,hlen⟩:=jL hn e h;refine enter_call (zX7 (call w s₀ b mg mb g o pm cd doc a vs ns G Y t (fd_plain hd) j i c hints hlen hg) λr s' hq=>?_);obtain⟨rfl,u,y,z⟩:=hq;exact⟨.inl ⟨.bool true,.bool true,[],rfl,λ_=>rfl,.bool true,jW l _,λ_=>⟨List.Pairwise.nil,λ_ hm=>(nomatch hm)⟩⟩,u,y,z⟩
section
variable {prog:Program}{w:World}{A:Around}{E:Value->Shared->Prop}{s:Shared}{K:Frag}
end
end Att
namespace L2
open PySem PySem.Spec PyProof.Rows
theorem jx {vs:List Value}{ns:List Int}(h:IntsAre vs ns):Vals (ns.map V.int) vs:=by
 induction h with
 |nil=>exact .nil
 |cons n t _ a=>exact .cons ⟨t,rfl⟩ a
def inClass (s:Stmt)(j:Nat):Stmt:=match s with
 |.ClassDef _ _ _ body _ _ _ _ _ _ _=>body.getD j (.Pass ⟨0,0,0,0⟩)
 |_=>.Pass ⟨0,0,0,0⟩
def zJ (s:Stmt):Arguments:=match s with
 |.FunctionDef _ a _ _ _ _ _ _ _ _=>a
 |_=>{posonlyargs:=[],args:=[],vararg:=none,kwonlyargs:=[],kw_defaults:=[],kwarg:=none,defaults:=[]}
def zw (s:Stmt):List Stmt:=match s with
 |.FunctionDef _ _ b _ _ _ _ _ _ _=>b
 |_=>[]
def zf (s:Stmt):Scope:=match s with
 |.FunctionDef _ _ _ _ _ _ sc _ _ _=>sc
 |_=>{kind:=.function,names:=[],isGenerator:=false,isCoroutine:=false}
abbrev CX0 :CXT:=λ_ _ _ _ _ _=>False
abbrev E0 :XK:=λ_ _ _=>False
theorem pM {X:Cx}:Passes CX0 X E0:=λ_ _ _ _ _ _ _ h=>h.elim
structure Fun (K:PySem.W.Frag)(x qual:Str)(st:Stmt)(f:Addr)(fd:FuncData):Prop where
 ex:∃(oc:Value) (od:Option Addr) (kV doc pm:Value) (an:Option Addr) (cdv ct:Value) (osl:Array (Option Value)),
  fd=PySem.W.fnOf x qual (zJ st) (zw st) (zf st) .none kV doc pm an cdv ct/\K.lookup f=some ⟨oc,od,.func fd,osl⟩/\PySem.W.codeIn K cdv qual=true
 kp:PySem.W.keepIn K (.ref f)=true
section
variable {P:Program}{w:World}{K:PySem.W.Frag}{mg:Str->Option Value}{base:Heap}
theorem Fun.ok {x qual:Str}{st:Stmt}{f:Addr}{fd:FuncData}{N ps:List Str}{k:Nat}{sp:Sp}(F:Fun K x qual st f fd)(S:zT N ps (zf st))(len:∀vs H Q E,sp vs H Q E->vs.length=ps.length)
  (a:∀(cdv:Value) (A:Around) (outer:List Env) (s:Shared) (H:Hp) (vs:List V) (Q:VK) (E:XK),zI k (A.deeper (envOfC qual (zf st) s.heap.objs.size f cdv))->sp vs H Q E->
   ∃t,PSs (wq CX0 P w K mg base N qual (zf st) f cdv A outer s H E).nox (zw st) t/\t {nx:=λ_ H'=>Q .non H',rt:=Q} (start N vs) H):yE P w K mg base CX0 (k+1) f fd ps sp:=by
 obtain⟨oc,od,kV,doc,pm,an,cdv,ct,osl,rfl,d,c⟩:=F.ex;refine eZ d c S len λA outer s H vs Q E hr b=>?_;obtain⟨t,h,q⟩:=a cdv A outer s H vs Q E hr b;exact⟨t,h.nox,q⟩
theorem Fun.binds {x qual:Str}{st:Stmt}{f:Addr}{fd:FuncData}{ps:List Str}(F:Fun K x qual st f fd)
  (h:∀(kV doc pm:Value) (an:Option Addr) (cdv ct:Value) (us:List Value),us.length=ps.length->bindArgs (PySem.W.fnOf x qual (zJ st) (zw st) (zf st) .none kV doc pm an cdv ct) ⟨us,[]⟩=pure (ps.zip us)):Binds K fd ps []:=by
 obtain⟨oc,od,kV,doc,pm,an,cdv,ct,osl,rfl,b,a⟩:=F.ex;exact .all (h kV doc pm an cdv ct)
theorem qz {x qual:Str}{st:Stmt}{f:Addr}{oc:Value}{od an:Option Addr}{osl:Array (Option Value)}{kV doc pm cdv ct:Value}(l:K.lookup f=some ⟨oc,od,.func (PySem.W.fnOf x qual (zJ st) (zw st) (zf st) .none kV doc pm an cdv ct),osl⟩)
  (c:PySem.W.codeIn K cdv qual=true) (k:PySem.W.keepIn K (.ref f)=true):Fun K x qual st f (PySem.W.fnOf x qual (zJ st) (zw st) (zf st) .none kV doc pm an cdv ct):=⟨⟨oc,od,kV,doc,pm,an,cdv,ct,osl,rfl,l,c⟩,k⟩
end
theorem yw {n:Nat}(h:n<=1000):n<sizeLine:=zK9 h (by decide)
section
variable {X:Cx}
theorem pv (i:Nat){x:Str}{pos:Pos}(c:X.N[i]?=some x:=by rfl)(b:Vis X.env.scope x:=by first|exact Or.inl rfl|exact Or.inr (Or.inl rfl)|exact Or.inr (Or.inr rfl))(hd:(x == ("__debug__":Str))=false:=by decide)
  (a:(x == ("__classdict__":Str))=false:=by decide):PE X (.Name x pos) (zr1 i):=yX c b hd a
end
theorem rA {A B:Prop}(h:B):if false=true then A else B:=by
 rw[if_neg zL3];exact h
theorem rq {A B:Prop}(h:A):if true=true then A else B:=by
 rw[if_pos rfl];exact h
theorem zG0 {c A B:Prop}[Decidable c](a:c->A)(b:¬c->B):if c then A else B:=by
 by_cases h:c
 ·rw[if_pos h];exact a h
 ·rw[if_neg h];exact b h
def zv (H H':Hp):Prop:=∀b o,H b=some o->H' b=some o
theorem zv.refl (H:Hp):zv H H:=λ_ _ h=>h
theorem zv.trans {H H1 d:Hp}(a:zv H H1)(b:zv H1 d):zv H d:=λc o h=>b c o (a c o h)
def vn (cells:List (Str×Addr)):List (Str×NameKind)->List (Str×Addr)->List (Str×Addr)
 |[],acc=>acc
 |(n,k)::r,acc=>vn cells r (if k=.free then(n,(cells.lookup n).getD 0)::acc else acc)
theorem wY {env:Env}{scope:Scope}(h:∀y∈scope.names,y.2=.free->∃c,env.cells.lookup y.1=some c):
  closureFor scope env=pure (vn env.cells scope.names []):=by
 have key:∀(ns:List (Str×NameKind)) (acc:List (Str×Addr)),(∀y∈ns,y.2=.free->∃c,env.cells.lookup y.1=some c)->
   (forIn ns acc λ(x:Str×NameKind) (r:List (Str×Addr))=>(if(x.2 == NameKind.free)=true then(do let a <-cellOf env x.1;pure (ForInStep.yield ((x.1,a)::r)))else pure (ForInStep.yield r):Sem (ForInStep (List (Str×Addr)))))=pure (vn env.cells ns acc):=by
  intro ns
  induction ns with
  |nil=>intro acc _;rfl
  |cons y r e=>
   intro acc hy;obtain⟨n,k⟩:=y;rw[z28];have hr:∀z∈r,z.2=.free->∃c,env.cells.lookup z.1=some c:=λz hz=>hy z (zJ2 _ hz);by_cases hk:k=.free
   ·subst hk;obtain⟨c,d⟩:=hy (n,.free) zJ6 rfl;have e1:cellOf env n=pure c:=by
     unfold cellOf;rw[d]
    have b:((NameKind.free == NameKind.free)=true):=rfl;simp only[b,zY9,e1,pure_bind];rw[e _ hr];show _=pure (vn env.cells r (if NameKind.free=NameKind.free then(n,(env.cells.lookup n).getD 0)::acc else acc));rw[if_pos rfl,d];rfl
   ·have b:(k == NameKind.free)=false:=by simpa using hk
    simp only[b,zR5,zY2,pure_bind];rw[e _ hr];show _=pure (vn env.cells r (if k=NameKind.free then(n,(env.cells.lookup n).getD 0)::acc else acc));rw[if_neg hk]
 have q:=key scope.names [] h;unfold closureFor;simp only[]at q ⊢;rw[show(forIn scope.names ([]:List (Str×Addr)) λ(x:Str×NameKind) (r:List (Str×Addr))=>_)=_ from q];rfl
theorem pG {cells:List (Str×Addr)}:∀(ns:List (Str×NameKind)) (acc:List (Str×Addr)),(∀y∈ns,y.2=.free->∃c,cells.lookup y.1=some c)->
  ∀x c,(x,c)∈vn cells ns acc->(x,c)∈acc\/((x,NameKind.free)∈ns/\cells.lookup x=some c)
 |[],acc,_,x,c,h=>.inl h
 |(n,k)::r,acc,hy,x,c,h=>by
  have hr:∀z∈r,z.2=.free->∃c,cells.lookup z.1=some c:=λz hz=>hy z (zJ2 _ hz);have h':(x,c)∈vn cells r (if k=.free then(n,(cells.lookup n).getD 0)::acc else acc):=h;rcases pG r _ hr x c h' with q|⟨g,i⟩
  ·by_cases hk:k=.free
   ·rw[if_pos hk]at q;rcases zJ1.mp q with e|q
    ·obtain⟨c',f⟩:=hy (n,k) zJ6 hk;have e1:x=n:=congrArg Prod.fst e;have b:c=(cells.lookup n).getD 0:=congrArg Prod.snd e;have a:cells.lookup n=some c':=f;rw[a]at b;have d:c=c':=b;subst e1 d hk;exact .inr ⟨zJ6,a⟩
    ·exact .inl q
   ·rw[if_neg hk]at q;exact .inl q
  ·exact .inr ⟨zJ2 _ g,i⟩
theorem oM {cells:List (Str×Addr)}:∀(ns:List (Str×NameKind)) (acc:List (Str×Addr)) (p:Str×Addr),p∈acc->p∈vn cells ns acc
 |[],_,_,h=>h
 |(n,k)::r,acc,p,h=>by
  show p∈vn cells r (if k=.free then(n,(cells.lookup n).getD 0)::acc else acc);refine oM r _ p ?_;split
  ·exact zJ2 _ h
  ·exact h
theorem pP {cells:List (Str×Addr)}:∀(ns:List (Str×NameKind)) (acc:List (Str×Addr)) (x:Str),(x,NameKind.free)∈ns->∃c,(x,c)∈vn cells ns acc
 |[],_,_,h=>by simp at h
 |(n,k)::r,acc,x,h=>by
  show ∃c,(x,c)∈vn cells r (if k=.free then(n,(cells.lookup n).getD 0)::acc else acc);rcases zJ1.mp h with e|h
  ·have e1:x=n:=congrArg Prod.fst e;have a:NameKind.free=k:=congrArg Prod.snd e;subst e1 a;rw[if_pos rfl];exact⟨_,oM r _ _ zJ6⟩
  ·exact pP r _ x h
theorem mem_lookup {x:Str}{c:Addr}:∀{l:List (Str×Addr)},(x,c)∈l->∃d,l.lookup x=some d
 |[],h=>by simp at h
 |(n,a)::r,h=>by
  rw[zO0];cases e:x == n with
  |true=>exact⟨a,rfl⟩
  |false=>
   rcases zJ1.mp h with q|q
   ·have e1:x=n:=congrArg Prod.fst q;rw[e1]at e;simp at e
   ·exact mem_lookup q
structure zz (XN:List Str)(xs:Scope)(N:List Str)(imp:List (Option Nat))(scope:Scope):Prop where
 kind:scope.kind=.function
 nd:N.Nodup
 nocell:∀y∈scope.names,y.2≠.cell
 locs:∀y∈scope.names,y.2=.local->scope.names.lookup y.1=some .local
 frees:∀y∈scope.names,y.2=.free->xs.names.lookup y.1=some .cell\/xs.names.lookup y.1=some .free
 len:imp.length=N.length
 impsB:((imp.zip N).all λp=>match p.1 with|none=>true|some j=>XN[j]? == some p.2&&scope.names.lookup p.2 == some .free)=true
theorem zz.imps {XN N:List Str}{xs scope:Scope}{imp:List (Option Nat)}(S:zz XN xs N imp scope):∀(i j:Nat),imp[i]?=some (some j)->∃x,N[i]?=some x/\XN[j]?=some x/\scope.names.lookup x=some .free:=by
 intro i j h;have hi:i<imp.length:=(zI8.mp h).1;have hn:i<N.length:=by rw[<-S.len];exact hi
 have b:N[i]?=some N[i]:=zI7 hn;have hm:(some j,N[i])∈imp.zip N:=by
  have hz:(imp.zip N)[i]?=some (some j,N[i]):=by
   rw[List.getElem?_zip_eq_some];exact⟨h,b⟩
  exact zL8 hz
 have q:=zY3.mp S.impsB _ hm;have a:(XN[j]? == some N[i]&&scope.names.lookup N[i]==some .free)=true:=q;rw[zN3]at a;exact⟨N[i],b,eq_of_beq a.1,eq_of_beq a.2⟩
def xH (imp:List (Option Nat))(σ:St):St:=imp.map λo=>o.bind λj=>(σ[j]?).bind id
theorem iz {imp:List (Option Nat)}{σ:St}{i:Nat}{v:V}(h:(xH imp σ)[i]?=some (some v)):∃j,imp[i]?=some (some j)/\σ[j]?=some (some v):=by
 unfold xH at h;rw[zK0]at h;cases e:imp[i]? with
 |none=>rw[e]at h;cases h
 |some o=>
  rw[e]at h;have h':(o.bind λj=>(σ[j]?).bind id)=some v:=zM7 h;cases o with
  |none=>cases h'
  |some j=>
   have a:(σ[j]?).bind id=some v:=h';cases e2:σ[j]? with
   |none=>rw[e2]at a;cases a
   |some w=>
    rw[e2]at a;have b:w=some v:=a;exact⟨j,rfl,by rw[e2,b]⟩
def Cx.comp (X:Cx)(N:List Str)(scope:Scope)(C:Addr)(s2:Shared)(a:Hp)(fp:List Addr):Cx where
 prog:=X.prog
 w:=X.w
 K:=X.K
 mg:=X.mg
 base:=X.base
 A:=X.A
 N:=N
 s₀:=s2
 H₀:=a
 env:=compEnvC scope (vn X.env.cells scope.names []) C X.env
 outer:=X.stack
 stack:=X.stack
 ex:=fp
 fn:=λ_=>false
 calm:=X.calm
 pn:=[]
 xe:=λ_ _=>False
theorem vI {env:Env}:∀{names:List (Str×NameKind)}{x:Str},
  (names.map λ(n,k)=>if(k == NameKind.free&&env.scope.kind == .function&&env.kindOf n == some .cell)then(n,NameKind.cell)else(n,k)).lookup x=some .cell\/
  (names.map λ(n,k)=>if(k == NameKind.free&&env.scope.kind == .function&&env.kindOf n == some .cell)then(n,NameKind.cell)else(n,k)).lookup x=some .free->
  (∀y∈names,y.2≠.cell)->(x,NameKind.free)∈names
 |[],x,h,_=>by simp at h
 |(n,k)::r,x,h,hc=>by
  have f:=@vI env r x;rw[zM9]at h;dsimp only at h;by_cases d:x=n
  ·subst d;by_cases hk:k=.free
   ·subst hk;exact zJ6
   ·have a:(k == NameKind.free)=false:=by simpa using hk
    simp only[a,zW1,zR5,zY2,zO0,beq_self_eq_true,zY9]at h;rcases h with h|h
    ·have e:k=.cell:=zM7 h;exact absurd e (hc (x,k) zJ6)
    ·have e:k=.free:=zM7 h;exact absurd e hk
  ·have c:(x == n)=false:=by simpa using d
   have step:∀(b:Bool) (l:List (Str×NameKind)),List.lookup x ((if b=true then(n,NameKind.cell)else(n,k))::l)=l.lookup x:=λb l=>by
    cases b<;>simp[zO0,c]
   rw[step]at h;exact zJ2 _ (f h λy hy=>hc y (zJ2 _ hy))
theorem wg {env:Env}:∀{names:List (Str×NameKind)}{x:Str},names.lookup x=some .free->
  (names.map λ(n,k)=>if(k == NameKind.free&&env.scope.kind == .function&&env.kindOf n == some .cell)then(n,NameKind.cell)else(n,k)).lookup x=some .cell\/
  (names.map λ(n,k)=>if(k == NameKind.free&&env.scope.kind == .function&&env.kindOf n == some .cell)then(n,NameKind.cell)else(n,k)).lookup x=some .free
 |[],x,h=>by simp at h
 |(n,k)::r,x,h=>by
  have a:=@wg env r x;rw[zM9];dsimp only;rw[zO0]at h;cases hx:x == n with
  |true=>
   rw[hx]at h;have e:k=.free:=zM7 h;subst e;by_cases hb:(NameKind.free == NameKind.free&&env.scope.kind == .function&&env.kindOf n == some .cell)=true
   ·left;rw[if_pos hb];simp[zO0,hx]
   ·right;rw[if_neg hb];simp[zO0,hx]
  |false=>
   rw[hx]at h;have step:∀(b:Bool) (l:List (Str×NameKind)),List.lookup x ((if b=true then(n,NameKind.cell)else(n,k))::l)=l.lookup x:=λb l=>by
    cases b<;>simp[zO0,hx]
   rw[step];exact a h
section
variable {X:Cx}{pins:List (Addr×Obj)}{σ:St}{H2 H':Hp}{s2 s':Shared}{fp:List Addr}{N:List Str}{imp:List (Option Nat)}{scope:Scope}{C acc:Addr}
theorem vw (I:Inv X pins σ H2 s2)(S:zz X.N X.env.scope N imp scope):∀y∈scope.names,y.2=.free->∃c,X.env.cells.lookup y.1=some c:=λy hy hk=>I.ok.has y.1 (S.frees y hy hk)
theorem xl (I:Inv X pins σ H2 s2)(S:zz X.N X.env.scope N imp scope){x:Str}{c:Addr}(h:(vn X.env.cells scope.names []).lookup x=some c):(x,NameKind.free)∈scope.names/\X.env.cells.lookup x=some c:=by
 rcases pG scope.names [] (vw I S) x c (zP2 h)with q|q
 ·exact absurd q (by simp)
 ·exact q
theorem vX (I:Inv X pins σ H2 s2)(S:zz X.N X.env.scope N imp scope){x:Str}(h:(x,NameKind.free)∈scope.names):∃c,(vn X.env.cells scope.names []).lookup x=some c:=by
 obtain⟨c,a⟩:=pP (cells:=X.env.cells) scope.names [] x h;exact mem_lookup a
theorem fv {f:Heap}{tk:Nat}{m:Str->Option Value}{L:Nat}(I:Inv X pins σ H2 s2)(S:zz X.N X.env.scope N imp scope)(hf:∀b∈fp,yT X pins H2 b)(M:∀b∈fp,∃o,s2.heap.get? b=some o)
  (a:acc=s2.heap.objs.size) (s:C=s2.heap.objs.size+1) (old:∀b o,s2.heap.get? b=some o->f.get? b=some o) (hn:f.Ns C m)
  (T:f.get? acc=some {cls:=.type "list",data:=.seq ([]:List Value).toArray L}):
  Inv (X.comp N scope C s2 H2 fp) [] (xH imp σ) (upd H2 acc (.lst [])) {s2 with heap:=f,toks:=tk}:=by
 have W:H2 acc=none:=I.hok.fresh (by rw[a];exact zJ0 _);have A:C≠acc:=by rw[s,a];exact Nat.succ_ne_self _
 have F:∀x c,X.env.cells.lookup x=some c->c<s2.heap.objs.size:=λx c e=>by
  obtain⟨v,q⟩:=I.cell x c e;exact q.lt
 refine⟨⟨I.ok.mod,S.kind,I.ok.glob,I.ok.blt,?above,?inj,?has,?cab,I.ok.hd,I.ok.frames,.inl rfl,?exf,λb o e=>I.bs b o e,zK1 I.ok.bsz I.sz,?noex,?exfs,I.stack,I.stkFree⟩,
  rfl,I.bare,Un.laid old (by rw[a];exact zJ0 _) W,⟨m,hn,?loc⟩,?cell,?free,?freeC,λp Y=>absurd (show p∈([]:List (Addr×Obj))from Y) (by simp),I.hok.laid old (by rw[a];exact zJ0 _) ⟨zJ8 _,[],L,.nil,T⟩,?len⟩
 case above=>show s2.heap.objs.size<=C;rw[s];exact zT5 _
 case inj=>exact λx y c f O=>I.ok.inj x y c (xl I S f).2 (xl I S O).2
 case has=>exact λx U=>vX I S (vI (env:=X.env) U S.nocell)
 case cab=>exact λx c h _=>absurd h (by show ¬(false=true);simp)
 case exf=>
  intro b hb;obtain⟨o,G⟩:=M b hb;refine⟨?_,λx c e=>(hf b hb).2.2.2.2.1 x c (xl I S e).2⟩;show b≠C;rw[s];exact zK2 (zP4 (zJ5 G))
 case noex=>
  intro b o e hb;rcases(hf b hb).2.2.2.1 with z|z
  ·exact I.ok.noex b o e z
  ·exact absurd (zI9 (zJ5 e) (zK1 I.ok.bsz z)) (zO2 _)
 case exfs=>
  intro b hb hz;rcases zJ1.mp (I.stkSub b hz)with e|e
  ·exact(hf b hb).2.1 e
  ·exact(hf b hb).2.2.1 e
 case loc=>
  intro i x v e1 Q Z;obtain⟨j,P,R⟩:=iz Q;obtain⟨y,n1,n2,t⟩:=S.imps i j P;have w:(X.comp N scope C s2 H2 fp).N[i]?=some y:=n1;rw[w]at e1;have E:y=x:=zM7 e1;subst E;have g:=S.frees (y,.free) (zP2 t) rfl;obtain⟨mX,V,H⟩:=I.loc;obtain⟨u,r,l⟩:=H j y v n2 R (.inr g);refine⟨u,r,?_⟩;rcases l with⟨k,_⟩|⟨k,c,e,z⟩
  ·have K:X.env.scope.names.lookup y=some .local:=k;rcases g with z|z
   ·have n:X.env.scope.names.lookup y=some .cell:=z;rw[K]at n;cases n
   ·have n:X.env.scope.names.lookup y=some .free:=z;rw[K]at n;cases n
  ·obtain⟨d,hd⟩:=vX I S (zP2 t);have hd2:=(xl I S hd).2;rw[e]at hd2;have B:c=d:=zM7 hd2;subst B;exact .inr ⟨wg (env:=X.env) t,c,hd,z.keeps old⟩
 case cell=>
  intro x c e;obtain⟨v,q⟩:=I.cell x c (xl I S e).2;exact⟨v,q.keeps old⟩
 case free=>
  show upd H2 acc _ C=none;rw[zh A];exact I.hok.fresh (by rw[s];exact zT5 _)
 case freeC=>
  intro x c e;have J:=(xl I S e).2;have D:=F x c J;show upd H2 acc _ c=none;rw[zh (by rw[a];exact zK2 D)];exact I.freeC x c J
 case len=>
  show(xH imp σ).length=N.length;unfold xH;rw[zI5];exact S.len
theorem jm {pl:List (Addr×Obj)}{a:St}(I:Inv X pins σ H2 s2)(hf:∀b∈fp,yT X pins H2 b)(J:Inv (X.comp N scope C s2 H2 fp) pl a H' s'):Inv X pins σ H' s':=
 I.call' (ch:=fp) J.os J.base J.hok J.bare λb hb=>⟨(hf b hb).2.2.2.1,(hf b hb).2.1,(hf b hb).2.2.2.2.1,(hf b hb).2.2.2.2.2⟩
end
section
variable {prog:Program}{w:World}{A:Around}{R:Result->Shared->Prop}{s:Shared}
theorem qw {elt target iter:Expr}{ifs:List Expr}{scope:Scope}{pos:Pos}{it acc:Value}{env:Env}(I:Nat->Shared->Prop)
  (turn:∀n s,I n s->wpAny (model prog w) A (pyNext it) (λr s1=>match r with
   |none=>R (.ok .next) s1
   |some v=>wpAny (model prog w) A (letOwnedTupleGo target it v) (λ_ s2=>wpAny (model prog w) A (assign target env v) (λ_ s3=>
     wpAny (model prog w) A (forIn ifs true λc r=>if r=true then do let ok <-isTrue c env (eval c env);pure (ForInStep.yield ok)else pure (ForInStep.yield r)) (λok s4=>
      if ok=true then wpAny (model prog w) A (eval elt env) (λx s5=>
       wpAny (model prog w) A (call (.builtin "list.append") [acc,x]) (λ_ a=>∃m,m<n/\I m a) (λ_ _=>False) s5) (λ_ _=>False) s4
      else ∃m,m<n/\I m s4) (λ_ _=>False) s3) (λ_ _=>False) s2) (λ_ _=>False) s1) (λ_ _=>False) s)
  (n:Nat) (h:I n s):codeAny (model prog w) A (.compLoop (.ListComp elt [⟨target,iter,ifs,0⟩] scope pos) 0 it acc env) R s:=by
 refine codeAny_loop rfl I (λn s f=>?_) n h;show wpAny _ A ((compTurn (.ListComp elt [⟨target,iter,ifs,0⟩] scope pos) 0 it acc env).onRaise (λx=>do noteFrame x env;theTreesLotGoes x)) _ _ s;refine wpAny_noted ?_;rw[compTurn_list];refine zI3 (wpAny_standAt (zI3 (zN9 (turn n s f) (λr s1 b=>?_) λ_ _ h'=>False.elim h')));cases r with
 |none=>exact zI6 b
 |some v=>
  refine zI3 (zN9 b (λ_ s2 e=>?_) λ_ _ h'=>False.elim h');refine zI3 (zN9 e (λ_ s3 j=>zI3 (zN9 j (λok s4 d=>?_) λ_ _ h'=>False.elim h')) λ_ _ h'=>False.elim h');cases ok with
  |false=>exact zI6 ⟨rfl,d⟩
  |true=>
   exact zI3 (zI3 (zN9 d (λx s5 i=>zI3 (zN9 i (λ_ a g=>zI6 (zI6 ⟨rfl,g⟩)) λ_ _ h'=>False.elim h')) λ_ _ h'=>False.elim h'))
end
def wC (Y:Cx)(ifs:List Expr)(t:TT):Prop:=
 ∀(pins:List (Addr×Obj)) (s:Shared) (σ:St) (H:Hp) (Q:Bool->Hp->Prop),Inv Y pins σ H s->t σ H Q->
  wpAny (model Y.prog Y.w) Y.A (forIn ifs true λc r=>if r=true then do let ok <-isTrue c Y.env (eval c Y.env);pure (ForInStep.yield ok)else pure (ForInStep.yield r)) (TP Y pins σ Q) Y.xe s
def zG3 :TT:=λ_ H Q=>Q true H
theorem za6 {Y:Cx}:wC Y [] zG3:=λ_ _ _ H _ I h=>wpAny_tests_nil ⟨H,I,h⟩
theorem aw {Y:Cx}{c:Expr}{t:TT}(h:PT Y c t):wC Y [c] t:=λpins s σ H Q I q=>wpAny_tests_one (h pins s σ H Q I q)
def lE (J:It)(acc:Addr)(g:TG)(tt:TT)(n:TE)(e:St)(H0:Hp)(Q:VK):Prop:=
 ∃W:Nat->Nat->List V->St->Hp->Prop,(∃m,W 0 m [] e H0)/\∀i m ys l b,W i m ys l b->
  (J.stop i b/\Q (.ref acc) b)\/(J.go i b/\∃N:List V->St->Hp->Prop,(∀d a H',N d a H'->∃j,j<m/\W (i+1) j d a H')/\
   ∀x k,J.yld i b x k->g x l k λτ2 o=>tt τ2 o λc f=>
    if c=true then n τ2 f λy h=>h acc=some (.lst ys)/\ys.length<sizeLine/\N (ys++[y]) τ2 (upd h acc (.lst (ys++[y])))else N ys τ2 f)
def gk (a:TI)(imp:List (Option Nat))(g:TG)(tt:TT)(b:TE):TE:=λσ H Q=>a σ H λJ H1=>∀acc,H1 acc=none->lE J acc g tt b (xH imp σ) (upd H1 acc (.lst [])) Q
section
variable {X:Cx}{pins:List (Addr×Obj)}{σ:St}{elt iter tg:Expr}{ifs:List Expr}{scope:Scope}{pos:Pos}{wi:TI}{g:TG}{tt:TT}{te:TE}{N:List Str}{imp:List (Option Nat)}
theorem sJ {c:Hp}{s2:Shared}{it:Addr}{fp:List Addr}{tn:Nat->Heap->Prop}{J:It}{RR:Value->Addr->Result->Shared->Prop}{E:Value->Shared->Prop}{Q:VK}
  (hc:X.calm=true) (S:zz X.N X.env.scope N imp scope) (hg:∀C s2 c fp,PG (X.comp N scope C s2 c fp) tg g) (ht:∀C s2 c fp,wC (X.comp N scope C s2 c fp) ifs tt) (he:∀C s2 c fp,PE (X.comp N scope C s2 c fp) elt te)
  (I2:Inv X pins σ c s2) (T:Turn X.prog X.w X.K tg J fp it tn) (D:tn 0 s2.heap) (f2:∀b∈fp,yT X pins c b)
  (hW:∀acc,c acc=none->lE J acc g tt te (xH imp σ) (upd c acc (.lst [])) Q)
  (a2:∀a C H' s' m,Inv X pins σ H' s'->s'.heap.Ns C m->yT X pins H' C->Q (.ref a) H'->RR (.ref a) C (.ok .next) s'):
  wpAny (model X.prog X.w) X.A (newList []) (λacc s3=>wpAny (model X.prog X.w) X.A (newFunctionEnv scope X.env.globals (vn X.env.cells scope.names []) [] X.env.qual none .none (some X.env)) (λB s4=>
   codeAny (model X.prog X.w) X.A (.compStart (.ListComp elt [⟨tg,iter,ifs,0⟩] scope pos) 0 (.ref it) acc {B with scope:=relabel scope X.env}) (RR acc B.locals) s4) E s3) E s2:=by
 refine zS2 (wpAny_newFunctionEnv S.nocell (by intro y hy;simp at hy) (λY k h=>?_) S.kind);dsimp only at k h ⊢;generalize F:s2.heap.push {cls:=.type "list",dict:=none,data:=.seq ([]:List Value).toArray}=HH at k h ⊢;have L:HH.objs.size=s2.heap.objs.size+1:=by rw[<-F,zP8]
 have R:s2.heap.objs.size≠HH.objs.size:=by rw[L];exact zK2 (zO3 _)
 have old:∀b o,s2.heap.get? b=some o->Y.get? b=some o:=λb o e=>h.extBut b o (by rw[L];exact zK2 (zP4 (zJ5 e))) (zI4 _ (F▸zI4 _ e));have M:Y.get? s2.heap.objs.size=some {cls:=.type "list",data:=.seq ([]:List Value).toArray}:=h.extBut _ _ R (zI4 _ (F▸zJ4 _ rfl));obtain⟨W,⟨m0,w0⟩,turn⟩:=hW s2.heap.objs.size I2.fresh;generalize b6:HH.objs.size=C at k h L R ⊢;have ho:∀b∈fp,∃o,s2.heap.get? b=some o:=λb hb=>let⟨o,e,_⟩:=T.obj 0 _ D b hb;⟨o,e⟩;generalize f:s2.heap.objs.size=acc at *;have loop:∀s3:Shared,s3={s2 with heap:=Y,toks:=s2.toks+([]:List (Str×Value)).length}->
   codeAny (model X.prog X.w) X.A (.compLoop (.ListComp elt [⟨tg,iter,ifs,0⟩] scope pos) 0 (.ref it) (.ref acc) (X.comp N scope C s2 c fp).env) (RR (.ref acc) C) s3:=by
  rintro s3 rfl;have I3:Inv (X.comp N scope C s2 c fp) [] (xH imp σ) (upd c acc (.lst [])) {s2 with heap:=Y,toks:=s2.toks+([]:List (Str×Value)).length}:=
   fv I2 S f2 ho f.symm (by rw[L,f]) old k M
  have b0:∀b∈fp,upd c acc (.lst []) b=none:=λb hb=>by
   obtain⟨o,e⟩:=ho b hb;rw[zh (by rw[<-f];exact zK2 (zJ5 e))];exact(f2 b hb).1
  have l:∀{H':Hp},(∀b∈fp,H' b=none)->∀b∈fp,yT (X.comp N scope C s2 c fp) [] H' b:=λhn b hb=>by
   obtain⟨e1,e2⟩:=I3.ok.exf b hb;exact⟨hn b hb,e1,I3.ok.exfs b hb,.inl hb,e2,λp hp=>absurd (show p∈([]:List (Addr×Obj))from hp) (by simp)⟩
  refine qw (λn s'=>∃i ys q H',Inv (X.comp N scope C s2 c fp) [] q H' s'/\tn i s'.heap/\(∀b∈fp,H' b=none)/\W i n ys q H') ?_ m0
   ⟨0,[],_,_,I3,T.keep _ _ _ D λb _ o e=>old b o e,b0,w0⟩
  rintro n s4 ⟨i,ys,q,Z,I4,U,P,w4⟩;rcases turn i n ys q Z w4 with⟨stop,qn⟩|⟨go,NN,hN,step⟩
  ·refine zN9 (T.done (X.comp N scope C s2 c fp) rfl rfl rfl hc i [] s4 q Z (λ_ _=>False) I4 (l P) U stop) (λr s5 a8=>?_) λ_ _ z=>z;obtain⟨hr,I5⟩:=a8;subst hr;obtain⟨m5,a1,_⟩:=id I5.loc;exact a2 acc C Z s5 m5 (jm I2 f2 I5) a1 (I2.fpOk (by rw[L,f];exact zT5 _) I5.free) qn
  ·refine zN9 (T.item (X.comp N scope C s2 c fp) rfl rfl rfl hc i [] s4 q Z (λ_ _=>False) I4 (l P) U go) (λr s5 b5=>?_) λ_ _ z=>z;obtain⟨u,hr,h5⟩:=b5;subst hr;refine zN9 h5 (λ_ s6 a3=>?_) λ_ _ z=>z;obtain⟨x,H6,I6,r6,y6,G,b3⟩:=a3;have a5:=I6.pinned (l b3) (T.obj _ _ G);refine zN9 (hg C s2 c fp _ s6 q H6 x u _ a5 r6 (step x H6 y6)) (λ_ s7 b1=>?_) λ_ _ z=>z;obtain⟨j,H7,I7,q7⟩:=b1;refine zN9 (ht C s2 c fp _ s7 j H7 _ I7 q7) (λok s8 a4=>?_) λ_ _ z=>z;obtain⟨H8,I8,q8⟩:=a4;have again:∀{s:List V} {t:Hp} {H:Shared},Inv (X.comp N scope C s2 c fp) ([]++sf fp s6.heap) j t H->NN s j t->∃m,m<n/\∃i ys q H',Inv (X.comp N scope C s2 c fp) [] q H' H/\tn i H.heap/\(∀b∈fp,H' b=none)/\W i m ys q H':=λ{s t H} O n9=>by
    obtain⟨m',hm,w9⟩:=hN s j t n9;refine⟨m',hm,i+1,s,j,t,O.unpinned,T.keep _ _ _ G λb hb o e=>(O.pin (b,o) (zK4 _ (zK4 _ (xR hb e)))).1,λb hb=>?_,w9⟩;obtain⟨o,e,d⟩:=T.obj _ _ G b hb;exact(O.pin (b,o) (zK4 _ (zK4 _ (xR hb e)))).2.1
   cases ok with
   |false=>
    have a6:NN ys j H8:=by
     have z:=q8;rw[if_neg zL3]at z;exact z
    rw[if_neg zL3];exact again I8 a6
   |true=>
    rw[if_pos rfl]at q8 ⊢;refine zN9 (he C s2 c fp _ s8 j H8 _ I8 q8) (λv H b2=>?_) λ_ _ z=>z;obtain⟨y,t,O,r9,a9,z9,q9⟩:=b2;refine zN9 (qo (X:=X.comp N scope C s2 c fp) _ H j t (.ref acc) [y] (.ref acc) [v] (λ_ I=>I=upd t acc (.lst (ys++[y]))) O rfl (.cons r9 .nil) ⟨acc,ys,y,rfl,rfl,a9,z9,rfl⟩) (λ_ b7 a7=>?_) λ_ _ z=>z;obtain⟨_,I,a0,_,b4⟩:=a7;subst b4;exact again a0 q9
 exact codeAny_compStart_list (loop _ rfl) (T.self X.A 0 _ _ _ (T.keep _ _ _ D λb _ o e=>old b o e) (loop _ rfl))
theorem zx4 (r:X.calm=true)(S:zz X.N X.env.scope N imp scope)(hi:PI X tg iter wi)(hg:∀C s2 c fp,PG (X.comp N scope C s2 c fp) tg g)(B:∀C s2 c fp,wC (X.comp N scope C s2 c fp) ifs tt)
  (he:∀C s2 c fp,PE (X.comp N scope C s2 c fp) elt te) (n:∀x,foldedSetIterable iter X.env x=pure x:=by intro _;rfl):
  PE X (.ListComp elt [⟨tg,iter,ifs,0⟩] scope pos) (gk wi imp g tt te):=by
 intro pins s σ H Q I h;rw[eval_ListComp];refine wpAny_comprehension_free (use:=none) rfl n (wY (vw I S)) S.kind S.locs (thn (hi pins s σ H _ I h) λv s1 t=>thn t λp s2 j=>?_);obtain⟨it,fp,tn,J,c,e,k,T,d,f2,y⟩:=j;subst e;refine sJ (RR:=λacc C=>compPost (model X.prog X.w) X.A X.xe none (EP X pins σ Q) acc C) r S hg B he k T d f2 y λa C H' s' m u hn f q=>?_;refine⟨m,hn,λh' sb=>?_⟩;obtain⟨l,g1,g2,g3,z,i⟩:=f;exact⟨.ref a,H',u.turned (t':=s'.toks) (it:=C) (λb o hb e=>(sb.2 b hb).trans e) l g1 g3 z i,rfl,q⟩
theorem eW {i:Nat}{x:Str}{px:Pos}{c:Pos}(L:X.calm=true)(S:zz X.N X.env.scope N imp scope)(hi:PI X tg iter wi)(hg:∀C s2 d fp,PG (X.comp N scope C s2 d fp) tg g)(V:∀C s2 d fp,wC (X.comp N scope C s2 d fp) ifs tt)
  (he:∀C s2 d fp,PE (X.comp N scope C s2 d fp) elt te) (E:X.N.Nodup) (M:X.N[i]?=some x) (O:Loc X.env.scope x) (k:swapsWith (.ListComp elt [⟨tg,iter,ifs,0⟩] scope pos) (some (.Name x px)) c.line X.env=pure true:=by rfl)
  (hf:X.fn x=true\/X.env.scope.names.lookup x=some .local:=by first|exact .inl rfl|exact .inr rfl|assumption) (F:∀x,foldedSetIterable iter X.env x=pure x:=by intro _;rfl):
  PS X (.Assign [.Name x px] (.ListComp elt [⟨tg,iter,ifs,0⟩] scope pos) c) (zn0 (gk wi imp g tt te) (sO i)):=by
 intro pins s σ H D I h;rw[exec_Assign_Name_used _ _ _ _ k];refine zI3 (wpAny_standAt (zI3 ?_));show wpAny _ X.A (do let _ <-comprehension (.ListComp elt [⟨tg,iter,ifs,0⟩] scope pos) scope X.env _ (newList []) false (eval iter X.env) (some (assign (.Name x px) X.env))) _ _ s;refine zI3 (zN9 (wpAny_comprehension_free (use:=some (assign (.Name x px) X.env)) (Q:=λ_ s'=>SP X pins D .next s') rfl F (wY (vw I S)) S.kind S.locs (thn (hi pins s σ H _ I h) λv s1 P=>thn P λK s2 y=>?_))
  (λ_ s' hq=>zI6 (zI6 hq)) λ_ _ e=>e)
 obtain⟨it,fp,tn,J,d,e,z,T,j,f2,U⟩:=y;subst e;refine sJ (Q:=λx H1=>sO i x σ H1 D.nx) (RR:=λacc C=>compPost (model X.prog X.w) X.A X.xe (some (assign (.Name x px) X.env)) (λ_ s'=>SP X pins D .next s') acc C) L S hg V he z T j f2 U λa C H' s' m R hn f q=>?_;show wpAny _ X.A (assign (.Name x px) X.env (.ref a)) _ _ _;obtain⟨B,g1,g2,g3,t,u⟩:=f;refine wpAny_assign_Name (qh R E M O (show RelV (.ref a) (.ref a)from rfl) (λs4 G p=>?_) hf);obtain⟨ad,sb,r⟩:=p;have l:C≠ad:=by
  rcases r with e|e
  ·rw[e];exact g1
  ·exact(t x ad e).symm
 refine⟨m,hn.sameBut sb l,λh' n=>?_⟩;exact⟨_,H',G.turned (t':=s4.toks) (it:=C) (λb o hb e=>(n.2 b hb).trans e) B g1 g3 t u,q⟩
end
mutual
inductive DV (H:Hp):V->PyData->Prop where
 |non:DV H .non .none
 |bl (b:Bool):DV H (.bl b) (.bool b)
 |int (i:Int):DV H (.int i) (.int i)
 |str (x:Str):DV H (.str x) (.str x)
 |lst {a:Addr}{xs:List V}{ds:List PyData}:H a=some (.lst xs)->DVs H xs ds->DV H (.ref a) (.list ds)
 |tup {a:Addr}{xs:List V}{ds:List PyData}:H a=some (.tup xs)->DVs H xs ds->DV H (.ref a) (.tuple ds)
inductive DVs (H:Hp):List V->List PyData->Prop where
 |nil:DVs H [] []
 |cons {x:V}{xs:List V}{d:PyData}{ds:List PyData}:DV H x d->DVs H xs ds->DVs H (x::xs) (d::ds)
end
theorem zz9 {H:Hp}{m1:V->PyData->Prop}{m2:List V->List PyData->Prop}(e:m1 .non .none)(f:∀b,m1 (.bl b) (.bool b))(g:∀i,m1 (.int i) (.int i))(k:∀x,m1 (.str x) (.str x))
  (n:∀{a:Addr} {xs:List V} {ds:List PyData},H a=some (.lst xs)->m2 xs ds->m1 (.ref a) (.list ds)) (o:∀{a:Addr} {xs:List V} {ds:List PyData},H a=some (.tup xs)->m2 xs ds->m1 (.ref a) (.tuple ds)) (n2:m2 [] []) (p:∀{x:V} {xs:List V} {d:PyData} {ds:List PyData},m1 x d->m2 xs ds->m2 (x::xs) (d::ds)):
  (∀x d,DV H x d->m1 x d)/\∀xs ds,DVs H xs ds->m2 xs ds:=by
 let j:=λx d (_:DV H x d)=>m1 x d
 let M2:=λx d (_:DVs H x d)=>m2 x d
 have l:=λ{a} {xs} {ds} (q:H a=some (.lst xs)) (_:DVs H xs ds) (z:m2 xs ds)=>n (a:=a) q z;have c:=λ{a} {xs} {ds} (q:H a=some (.tup xs)) (_:DVs H xs ds) (z:m2 xs ds)=>o (a:=a) q z;have m:=λ{x} {xs} {d} {ds} (_:DV H x d) (_:DVs H xs ds) (y:m1 x d) (z:m2 xs ds)=>p y z;exact⟨λ_ _ h=>@DV.rec H j M2 e f g k l c n2 m _ _ h,λ_ _ h=>@DVs.rec H j M2 e f g k l c n2 m _ _ h⟩
section
variable {X:Cx}{pins:List (Addr×Obj)}{σ:St}{H:Hp}{s:Shared}
theorem aA (I:Inv X pins σ H s):(∀x d,DV H x d->∀u,RelV x u->∃as,Reads s.heap u d as)/\∀xs ds,DVs H xs ds->∀us,Vals xs us->∃as,ReadsAll s.heap us ds as:=by
 refine zz9 (m1:=λx d=>∀u,RelV x u->∃as,Reads s.heap u d as) (m2:=λxs ds=>∀us,Vals xs us->∃as,ReadsAll s.heap us ds as) ?_ ?_ ?_ ?_ ?_ ?_ ?_ ?_
 ·intro u r;cases(show u=Value.none from r);exact⟨_,.none⟩
 ·intro b u r;cases(show u=Value.bool b from r);exact⟨_,.bool b⟩
 ·intro i u r;obtain⟨t,rfl⟩:=(show ∃t,u=Value.int i t from r);exact⟨_,.int i t⟩
 ·intro x u r;obtain⟨t,rfl⟩:=(show ∃t,u=Value.str x t from r);exact⟨_,.str x t⟩
 ·intro a xs ds hq c u r;cases(show u=Value.ref a from r);obtain⟨its,j,p,hz⟩:=I.list (SqL.of hq);obtain⟨o,g,f,n,hd⟩:=p.isList;obtain⟨as,e⟩:=c _ j;exact⟨_,.list g f hd (by simpa using e)⟩
 ·intro a xs ds hq c u r;cases(show u=Value.ref a from r);obtain⟨its,j,p,hz⟩:=I.tuple (SqT.of hq);obtain⟨o,g,f,n,hd⟩:=p;obtain⟨as,e⟩:=c _ j;exact⟨_,.tuple g f hd (by simpa using e)⟩
 ·intro us r;cases r;exact⟨_,.nil⟩
 ·intro x xs d ds h c us r;cases r with
  |cons r rs=>
   obtain⟨as,e⟩:=h _ r;obtain⟨bs,k⟩:=c _ rs;exact⟨_,.cons e k⟩
theorem DV.reads (I:Inv X pins σ H s){x:V}{d:PyData}{u:Value}(h:DV H x d)(r:RelV x u):∃as,Reads s.heap u d as:=(aA I).1 _ _ h _ r
end
theorem zp8 {H H':Hp}(e:zv H H'):(∀x d,DV H x d->DV H' x d)/\∀xs ds,DVs H xs ds->DVs H' xs ds:=zz9 .non .bl .int .str (λq=>.lst (e _ _ q)) (λq=>.tup (e _ _ q)) .nil .cons
theorem DV.same {H H':Hp}(e:zv H H'){x:V}{d:PyData}(h:DV H x d):DV H' x d:=(zp8 e).1 _ _ h
def tyD :PyData->String
 |.none=>"NoneType"
 |.bool _=>"bool"
 |.int _=>"int"
 |.str _=>"str"
 |.list _=>"list"
 |.tuple _=>"tuple"
 |.dict _=>"dict"
theorem DV.ty {K:PySem.W.Frag}{H:Hp}{x:V}{d:PyData}(h:DV H x d):vV K H x (.type (tyD d)):=by
 cases h with
 |non=>exact .non
 |bl b=>exact .bl b
 |int i=>exact .int i
 |str x=>exact .str x
 |lst e _=>exact .lst e
 |tup e _=>exact .tup e
def isInt :PyData->Bool
 |.int _=>true
 |.bool _=>true
 |_=>false
def isBool :PyData->Bool
 |.bool _=>true
 |_=>false
def isStr :PyData->Bool
 |.str _=>true
 |_=>false
def isList :PyData->Bool
 |.list _=>true
 |_=>false
def bC :PyData->Bool
 |.tuple _=>true
 |_=>false
def aF (T:String)(d:PyData):Option Bool:=
 if T="int" then some (isInt d)else if T="bool" then some (isBool d)else if T="str" then some (isStr d)else if T="list" then some (isList d)else if T="tuple" then some (bC d)else none
def zn2 (t T:String):Option Bool:=if(Value.type t == Value.type T)=true then some true else if PySem.W.kitMeta T=true then(fastBuiltinMro t).map (·.contains (Value.type T))else none
theorem fJ (K:PySem.W.Frag)(t T:String):PySem.W.kitOne K (.type t) (.type T)=zn2 t T:=rfl
theorem eQ :(["NoneType","bool","int","str","list","tuple"].all λt=>["int","bool","str","list","tuple"].all λT=>
  zn2 t T == some (if T="int" then t == "int"||t == "bool" else t == T))=true:=by decide +kernel
theorem zx3 (K:PySem.W.Frag){H:Hp}{x:V}{d:PyData}(h:DV H x d){T:String}{b:Bool}(e:aF T d=some b):PySem.W.kitOne K (.type (tyD d)) (.type T)=some b:=by
 rw[fJ];have key:∀t∈["NoneType","bool","int","str","list","tuple"],∀T∈["int","bool","str","list","tuple"],zn2 t T=some (if T="int" then t == "int"||t == "bool" else t == T):=λt f T c=>
  eq_of_beq (zY3.mp (zY3.mp eQ t f) T c)
 have hd:tyD d∈["NoneType","bool","int","str","list","tuple"]:=by cases h<;>simp[tyD]
 unfold aF at e;split at e
 ·rename_i a;subst a;rw[key _ hd "int" (by decide)];cases e;cases h<;>rfl
 ·split at e
  ·rename_i a;subst a;rw[key _ hd "bool" (by decide)];cases e;cases h<;>rfl
  ·split at e
   ·rename_i a;subst a;rw[key _ hd "str" (by decide)];cases e;cases h<;>rfl
   ·split at e
    ·rename_i a;subst a;rw[key _ hd "list" (by decide)];cases e;cases h<;>rfl
    ·split at e
     ·rename_i a;subst a;rw[key _ hd "tuple" (by decide)];cases e;cases h<;>rfl
     ·cases e
section
variable {X:Cx}
def zy2 :R2:=λx y H Q=>∃d e,DV H x d/\DV H y e/\SeqAt.shaped d=true/\SeqAt.shaped e=true/\Q (.bl (PyData.eqv d e)) H
def zv2 :R2:=λx y H Q=>∃d e,DV H x d/\DV H y e/\SeqAt.shaped d=true/\SeqAt.shaped e=true/\Q (.bl (!PyData.eqv d e)) H
theorem zo7 (a:X.A.units+64<cLine):OpR X (compareOp .Eq) zy2:=by
 intro pins s σ H x y v u Q I j c h;obtain⟨d,e,hd,he,f,g,q⟩:=h;obtain⟨as,i⟩:=hd.reads I j;obtain⟨bs,b⟩:=he.reads I c;exact SeqAt.compareEq_shaped i b f g a ⟨.bl _,H,I,rfl,q⟩
theorem zs6 (a:X.A.units+64<cLine):OpR X (compareOp .NotEq) zv2:=by
 intro pins s σ H x y v u Q I j c h;obtain⟨d,e,hd,he,f,g,q⟩:=h;obtain⟨as,i⟩:=hd.reads I j;obtain⟨bs,b⟩:=he.reads I c;exact SeqAt.compareNe_shaped i b f g a ⟨.bl _,H,I,rfl,q⟩
theorem cm :xx X (.builtin "isinstance") (λxs H Q=>∃x T t b,xs=[x,.ty T]/\vV X.K H x t/\PySem.W.kitOne X.K t (.type T)=some b/\Q (.bl b) H):=by
 intro pins s σ H xs us Q I r h;obtain⟨x,T,t,b,rfl,ty,e,q⟩:=h;obtain⟨u,v,rfl,c,a⟩:=Vals.two r;cases(show v=Value.type T from a);exact jy I c ty e λtk=>⟨.bl b,H,I.tok tk,rfl,q⟩
theorem jB :xx X (.builtin "isinstance") (λxs H Q=>∃x T d b,xs=[x,.ty T]/\DV H x d/\aF T d=some b/\Q (.bl b) H):=by
 intro pins s σ H xs us Q I r h;obtain⟨x,T,d,b,e,hd,a,q⟩:=h;exact cm pins s σ H xs us Q I r ⟨x,T,_,b,e,hd.ty,zx3 X.K hd a,q⟩
def ze6 (i j:Int):Prop:=0<j/\j.natAbs.log2<9000
theorem sX :OpR X (binaryOp .FloorDiv) (rI ze6 λi j=>.int (i / j)):=opI λi j _ _ _ _ _ b q=>by
 have a:(0:Int)<j:=b.1;refine floordiv_int (Int.ne_of_gt a) ?_ (.inl (PyProof.noPylong_of_log2 b.2));rw[Int.fdiv_eq_ediv_of_nonneg _ (zW2 a)];exact q
abbrev big :Int:=115792089237316195423570985008687907853269984665640564039457584007913129639936
theorem log2_small {j:Int}(h0:0<j)(h:j<big):j.natAbs.log2<9000:=by
 have hn:j.natAbs≠0:=by lia
 have a:j.natAbs<2 ^ 256:=by
  have e:(2:Nat) ^ 256=115792089237316195423570985008687907853269984665640564039457584007913129639936:=by decide +kernel
  rw[e];unfold big at h
  lia
 have b:j.natAbs.log2<256:=(Nat.log2_lt hn).mpr a
 lia
theorem oX :xx X (.type "range") (λxs H Q=>∃i j:Int,xs=[.int i,.int j]/\∀p,H p=none->Q (.ref p) (upd H p (.rng i j))):=by
 intro pins s σ H xs us Q I r h;obtain⟨i,j,rfl,q⟩:=h;obtain⟨u,v,rfl,⟨t,rfl⟩,⟨t',rfl⟩⟩:=Vals.two r;refine call_range_2 ⟨.ref s.heap.objs.size,_,I.laid (o:=.rng i j) (λb u e=>zI4 _ e) (zJ0 _) ⟨t,t',s.toks,zJ4 _ rfl⟩,rfl,q _ (I.hok.fresh (zJ0 _))⟩
def zr (lo:Int)(n:Nat):List Int:=(List.range n).map λi=>lo+(i:Nat)
theorem zc (lo:Int)(n:Nat):(zr lo n).length=n:=by simp[zr]
theorem yF {lo:Int}{n i:Nat}(h:i<n):(zr lo n)[i]?=some (lo+(i:Nat)):=by simp[zr,h]
theorem rD {lo:Int}{n:Nat}{acc:Array Value}(h:ItemsOf (λi v=>∃t,v=.int (lo+i*1) t) acc n):Vals ((zr lo n).map V.int) acc.toList:=by
 obtain⟨d,g⟩:=h;have key:∀(xs:List V) (us:List Value),xs.length=us.length->(∀(i:Nat) (x:V) (u:Value),xs[i]?=some x->us[i]?=some u->RelV x u)->Vals xs us:=by
  intro xs
  induction xs with
  |nil=>intro us a _;cases us with|nil=>exact .nil|cons _ _=>simp at a
  |cons x xs f=>
   intro us a hr;cases us with
   |nil=>simp at a
   |cons u us=>exact .cons (hr 0 x u rfl rfl) (f us (by simpa using a) λi e j e1 b=>hr (i+1) e j (by simpa using e1) (by simpa using b))
 refine key _ _ ?_ λi x u e1 b=>?_
 ·rw[zI5,zc];simp[d]
 ·rw[zK0]at e1;have hi:i<n:=by
   have:=(zI8.mp b).1;simp[d]at this;exact this
  rw[yF hi]at e1;have c:V.int (lo+(i:Nat))=x:=zM7 e1;subst c;obtain⟨t,k⟩:=g i u (by simpa using b);refine⟨t,?_⟩;rw[k,Int.mul_one]
theorem rB (j:X.calm=true):xx X (.type "list") (λxs H Q=>∃(p:Addr) (lo hi:Int),xs=[.ref p]/\H p=some (.rng lo hi)/\(-(2 ^ 62)<=lo/\lo<2 ^ 62/\-(2 ^ 62)<=hi/\hi<2 ^ 62)/\(hi-lo).toNat<=sizeLine/\(hi-lo).toNat<=2 ^ 24/\
  ∀l,H l=none->Q (.ref l) (upd H l (.lst ((zr lo (hi-lo).toNat).map V.int)))):=by
 intro pins s σ H xs us Q I r h;obtain⟨p,lo,hi,rfl,k,⟨g,v,m,f⟩,hz,b,q⟩:=h;obtain⟨u,rfl,c⟩:=Vals.one r;cases(show u=Value.ref p from c);obtain⟨t,t',d,e⟩:=(show zS X.prog X.w H s.heap p (.rng lo hi)from I.hok p _ k);refine call_list_range (I.ok.hd j) e (small_one g v m f) (n:=(hi-lo).toNat) (by rw[rangeSize_one];split<;>lia) b λh' tk a c' hk i hit=>?_;refine⟨.ref s.heap.objs.size,_,I.laid (o:=.lst ((zr lo (hi-lo).toNat).map V.int)) (t':=tk) hk (zJ0 _) ⟨by rw[zI5,zc];exact hz,a.toList,c',rD hit,by simpa using i⟩,rfl,q _ (I.hok.fresh (zJ0 _))⟩
end
def cE (X:Cx)(body:List Stmt):TS:=λD σ H=>∃t,PSs X body t/\t D σ H
theorem ya {X:Cx}{body:List Stmt}:PSs X body (cE X body):=λpins s σ H D I ⟨t,p,q⟩=>p pins s σ H D I q
theorem tF {X:Cx}{st:Stmt}{rest:List Stmt}{D:Ends}{σ:St}{H:Hp}(M:St->Hp->Prop)(n:∃t,PS X st t/\t {D with nx:=M} σ H)(g:∀a H',M a H'->∃t,PSs X rest t/\t D a H'):
  ∃t,PSs X (st::rest) t/\t D σ H:=by
 obtain⟨t1,p1,j⟩:=n;refine⟨λc a H'=>c=D/\a=σ/\H'=H,?_,rfl,rfl,rfl⟩;intro pins s a H' c I h;obtain⟨e1,k,f⟩:=h;subst e1 k f;have step:PSs X (st::rest) (zB7 t1 λd σ2 b=>d=c/\M σ2 b):=zG p1 λpins s σ2 b d i ⟨e,m⟩=>by
  subst e;obtain⟨o,p2,l⟩:=g σ2 b m;exact p2 pins s σ2 b _ i l
 refine step pins s _ _ _ I ?_;show t1 {c with nx:=λσ2 b=>c=c/\M σ2 b} _ _;have e:(λ(σ2:St) (b:Hp)=>c=c/\M σ2 b)=M:=by
  funext σ2 b
  exact propext ⟨λz=>z.2,λz=>⟨rfl,z⟩⟩
 rw[e];exact j
theorem at0 {α:Type}{x:α}{xs:List α}:atI (x::xs) 0=some x:=wR (j:=0) rfl
theorem fX (ns:List Int)(lo hi:Option Int):∃ms:List Int,pL (ns.map V.int) lo hi=ms.map V.int/\ms.length<=ns.length:=by
 refine⟨(ns.drop (HT.sIx (ns.map V.int).length 0 lo)).take (HT.sIx (ns.map V.int).length (ns.map V.int).length hi-HT.sIx (ns.map V.int).length 0 lo),?_,?_⟩
 ·unfold pL;rw[List.map_take,List.map_drop]
 ·rw[zO9,zW3];omega
def zy6 (bs:List Int):Prop:=∃x y:Int,bs=[x,y]/\0<=y/\y<4294967296
structure yH (H:Hp)(t b c:Addr):Prop where
 ex:∃(n:Int) (bs cs:List Int),(b=t/\c=t)/\H t=some (.lst (bs.map V.int))/\H b=some (.lst (bs.map V.int))/\H c=some (.lst (cs.map V.int))/\zy6 bs/\n=0
def zm6 (t b:Addr)(H H':Hp):Prop:=∀a,a≠t->a≠b->H' a=H a
def df :Sp:=λvs H Q _=>∃(t b c:Addr) (many:Int),vs=[.ref t,.int many]/\yH H t b c/\0<many/\many<big/\
 ∀(v:Int) (H':Hp),0<=v->v<many->yH H' t b c->zm6 t b H H'->Q (.int v) H'
theorem yH.free {H:Hp}{t b c l:Addr}(T:yH H t b c)(h:H l=none):l≠t/\l≠b/\l≠c:=by
 obtain⟨n,bs,cs,n1,e1,d,a,l1,l2⟩:=T.ex;exact⟨(zl e1 h).symm,(zl d h).symm,(zl a h).symm⟩
theorem yH.off {H H':Hp}{t b c:Addr}(T:yH H t b c)(h:∀a,a=t\/a=b\/a=c->H' a=H a):yH H' t b c:=by
 obtain⟨n,bs,cs,n1,e1,e,d,l1,l2⟩:=T.ex;exact⟨n,bs,cs,n1,by rw[h t (.inl rfl)];exact e1,by rw[h b (.inr (.inl rfl))];exact e,by rw[h c (.inr (.inr rfl))];exact d,l1,l2⟩
theorem dM {H:Hp}{t b c l:Addr}{o:HO}(T:yH H t b c)(h:l≠t/\l≠b/\l≠c):yH (upd H l o) t b c:=
 T.off λa ha=>zh (ha.elim (λe=>e▸h.1.symm) λha=>ha.elim (λe=>e▸h.2.1.symm) λe=>e▸h.2.2.symm)
theorem jN {H H':Hp}{t b c:Addr}(T:yH H t b c)(s:zv H H'):yH H' t b c:=by
 obtain⟨n,bs,cs,n1,e1,d,a,l1,l2⟩:=T.ex;exact⟨n,bs,cs,n1,s _ _ e1,s _ _ d,s _ _ a,l1,l2⟩
theorem zU {H:Hp}{p:Addr}{o:HO}(h:H p=none):zv H (upd H p o):=λb u e=>by rw[zh (zl e h)];exact e
def yf :Addr:=(472:Nat)
def xq :Str:="cheapest_first.<locals>.<lambda>"
def uM (x:Addr):Prop:=x=yf
def uV (c:Addr):HO:=.ext λh=>h.CodeRec (.ref c) xq
structure TabAt (H:Hp):Prop where
 ex:∃ps:Array Value,H yf=some (.tbl ps)/\TriplesOk ps.toList/\∀pos cv,codeAmong pos ps.toList=some cv->∃c,cv=.ref c/\H c=some (uV c)
theorem sF {H H':Hp}(T:TabAt H)(h:∀a o,(∀xs,o≠.lst xs)->H a=some o->H' a=some o):TabAt H':=by
 obtain⟨ps,e1,e,b⟩:=T.ex;refine⟨ps,h _ _ (λxs z=>nomatch z) e1,e,λpos cv d=>?_⟩;obtain⟨c,rfl,f⟩:=b pos cv d;exact⟨c,rfl,h _ _ (λxs z=>nomatch z) f⟩
def Plain (H:Hp)(l:Addr):Prop:=∀o,H l=some o->o≠uV l/\∀ps,o≠.tbl ps
theorem aD {H:Hp}{l:Addr}{o:HO}(T:TabAt H)(h:Plain H l):TabAt (upd H l o):=by
 obtain⟨ps,e1,e,b⟩:=T.ex;have n1:yf≠l:=λz=>by rw[z]at e1;exact(h _ e1).2 ps rfl
 refine⟨ps,by rw[zh n1];exact e1,e,λpos cv d=>?_⟩;obtain⟨c,rfl,a⟩:=b pos cv d;have n2:c≠l:=λz=>by subst z;exact(h _ a).1 rfl
 exact⟨c,rfl,by rw[zh n2];exact a⟩
theorem iJ {ps:Array Value}:∀a,HO.tbl ps≠HO.tup a:=λ_ z=>by cases z
theorem tJ {H:Hp}{x:Addr}(T:TabAt H)(h:uM x):∃o,H x=some o/\(∀a,o≠.tup a)/\∀xs,o≠.lst xs:=by
 obtain⟨ps,e1,_⟩:=T.ex;exact⟨_,by rw[h];exact e1,iJ,λ_ z=>by cases z⟩
theorem qj {H:Hp}{l:Addr}{xs:List V}(h:H l=some (.lst xs)):Plain H l:=λo e=>by
 rw[h]at e;cases e;exact⟨(λz=>by cases z),λps z=>by cases z⟩
theorem gZ {H:Hp}{l:Addr}{xs:List (Key×V)}(h:H l=some (.dK xs)):Plain H l:=λo e=>by
 rw[h]at e;cases e;exact⟨(λz=>by cases z),λps z=>by cases z⟩
theorem ir {H:Hp}{l C dx:Addr}{fs:List (Str×V)}(h:H l=some (.ins C dx fs)):Plain H l:=λo e=>by
 rw[h]at e;cases e;exact⟨(λz=>by cases z),λps z=>by cases z⟩
theorem vS {H:Hp}{l:Addr}(T:TabAt H)(h:H l=none):¬uM l:=λz=>by
 obtain⟨o,e,_⟩:=tJ T z;rw[h]at e;cases e
theorem zb6 {H H':Hp}{t b:Addr}{xs ys:List V}(T:TabAt H)(c:H t=some (.lst xs))(hb:H b=some (.lst ys))(off:zm6 t b H H'):TabAt H':=sF T λa o no e=>by
 have n1:a≠t:=λz=>by rw[z,c]at e;cases e;exact no _ rfl
 have n2:a≠b:=λz=>by rw[z,hb]at e;cases e;exact no _ rfl
 rw[off a n1 n2];exact e
theorem zk4 {H H':Hp}(T:TabAt H)(h:zv H H'):TabAt H':=sF T λa o _ e=>h a o e
def oF (K:PySem.W.Frag):Sp:=λvs H Q _=>∃(a:Addr) (ns:List Int),vs=[.ref a]/\SqL K H a (ns.map V.int)/\ns.length<=63/\TabAt H/\∀H',Q (.bl true) H'
structure zQ (n:Nat)(d:PyData):Prop where
 shw:d.showable=true
 nod:d.hasDict=false
 dep:d.depth<=8
 len:d.shown.length<=n
 lay:d.canLay0=true
theorem zQ.mono {m n:Nat}{d:PyData}(h:zQ m d)(e:m<=n):zQ n d:=⟨h.shw,h.nod,h.dep,zK1 h.len e,h.lay⟩
theorem uR :∀(a:List Str) (k:Nat) (acc:Str),(textFrom k acc a).length<=acc.length+piled a
 |[],_,acc=>by rw[piled_nil];exact zJ0 _
 |t::r,k,acc=>by
  have h:=uR r (k+1) (acc++(if k > 0 then ", " else "":String)++t);rw[piled_cons];have c:(Str.ofString (if k > 0 then ", " else "":String)).length<=2:=by
   split
   ·exact zL7 rfl
   ·exact zJ8 _
  have b:=z22 (acc++Str.ofString (if k > 0 then ", " else "":String)) t;have d:=z22 acc (Str.ofString (if k > 0 then ", " else "":String));show(textFrom (k+1) (acc++Str.ofString (if k > 0 then ", " else "":String)++t) r).length<=_;have h':(textFrom (k+1) (acc++Str.ofString (if k > 0 then ", " else "":String)++t) r).length<=(acc++Str.ofString (if k > 0 then ", " else "":String)++t).length+piled r:=h
  lia
theorem pQ (a:List Str):(listText a).length<=piled a+2:=by
 unfold listText;rw[z22];have h:=uR a 0 (Str.ofString "[");have e1:(Str.ofString "[").length=1:=rfl;have b:(Str.ofString "]").length=1:=rfl;show(textFrom 0 (Str.ofString "[") a).length+(Str.ofString "]").length<=_
 lia
theorem pd (a:List Str):(tupleText a).length<=piled a+3:=by
 cases a with
 |nil=>decide +kernel
 |cons t r=>
  have h:=join_length_add (t::r) (by simp);unfold tupleText;rw[z22,z22];have e1:(Str.ofString "(").length=1:=rfl;have b:(Str.ofString (if(t::r).length == 1 then ",)" else ")":String)).length<=2:=by
   split
   ·exact zL7 rfl
   ·exact zN6 (show 1<2 by decide)
  show(Str.ofString "(").length+(Str.join ", " (t::r)).length+(Str.ofString (if(t::r).length == 1 then ",)" else ")":String)).length<=_
  lia
theorem wB {n:Nat}:∀(ds:List PyData),(∀d∈ds,zQ n d)->piled (PyData.shownAll ds)<=ds.length*(n+2)
 |[],_=>zJ8 _
 |d::r,h=>by
  have a:=(h d zJ6).len;have b:=wB r λe he=>h e (zJ2 _ he);show piled (d.shown::PyData.shownAll r)<=_;rw[piled_cons,zM0,Nat.succ_mul]
  lia
structure yb (n:Nat)(ds:List PyData):Prop where
 all:∀d∈ds,zQ n d
 dep:∀d∈ds,d.depth<=7
theorem yb.parts {n:Nat}:∀{ds:List PyData},yb n ds->PyData.showableAll ds=true/\PyData.hasDictAll ds=false/\PyData.depthAll ds<=7/\PyData.canLayAll0 ds=true
 |[],_=>⟨rfl,rfl,zJ8 _,rfl⟩
 |d::r,h=>by
  obtain⟨a,b,c,e⟩:=yb.parts (ds:=r) ⟨λx f=>h.all x (zJ2 _ f),λx f=>h.dep x (zJ2 _ f)⟩;have hd:=h.all d zJ6;have g:=h.dep d zJ6;refine⟨?_,?_,?_,?_⟩
  ·simp only[PyData.showableAll,hd.shw,a,Bool.and_self]
  ·simp only[PyData.hasDictAll,hd.nod,b,Bool.or_self]
  ·simp only[PyData.depthAll];exact zy0 g c
  ·simp only[PyData.canLayAll0,hd.lay,e,Bool.and_self]
theorem zQ.list {n m:Nat}{ds:List PyData}(h:yb n ds)(e:ds.length*(n+2)+2<=m):zQ m (.list ds):=by
 obtain⟨a,b,c,f⟩:=h.parts;refine⟨by simp only[PyData.showable,a],by simp only[PyData.hasDict,b],by simp only[PyData.depth];exact zc4 c,?_,by simp only[PyData.canLay0,f]⟩;show(listText (PyData.shownAll ds)).length<=m;have d:=pQ (PyData.shownAll ds);have g:=wB ds h.all;exact zd3 e d g
theorem zQ.tuple {n m:Nat}{ds:List PyData}(h:yb n ds)(e:ds.length*(n+2)+3<=m):zQ m (.tuple ds):=by
 obtain⟨a,b,c,f⟩:=h.parts;refine⟨by simp only[PyData.showable,a],by simp only[PyData.hasDict,b],by simp only[PyData.depth];exact zc4 c,?_,by simp only[PyData.canLay0,f]⟩;show(tupleText (PyData.shownAll ds)).length<=m;have d:=pd (PyData.shownAll ds);have g:=wB ds h.all;exact zd3 e d g
theorem gW {i:Int}(h0:-big<i)(a:i<big):i.natAbs.log2<1920:=by
 by_cases hn:i.natAbs=0
 ·rw[hn];decide
 ·have b:i.natAbs<2 ^ 256:=by
   have e:(2:Nat) ^ 256=115792089237316195423570985008687907853269984665640564039457584007913129639936:=by decide +kernel
   rw[e];unfold big at h0 a
   lia
  have c:i.natAbs.log2<256:=(Nat.log2_lt hn).mpr b
  lia
theorem zQ.int {i:Int}(h0:-big<i)(b:i<big):zQ 2000 (.int i):=by
 have a:=gW h0 b;refine⟨by simp only[PyData.showable,zS3];exact a,rfl,zJ8 _,?_,rfl⟩;have:=int_text_len_1921 a;show(Str.ofString (toString i)).length<=2000
 lia
theorem zQ.none :zQ 2000 .none:=⟨rfl,rfl,zJ8 _,by decide +kernel,rfl⟩
theorem zQ.bool (b:Bool):zQ 2000 (.bool b):=⟨rfl,rfl,zJ8 _,by cases b<;>decide +kernel,rfl⟩
theorem zQ.shaped {n:Nat}{d:PyData}(h:zQ n d):SeqAt.shaped d=true:=by
 unfold SeqAt.shaped;rw[h.lay,Bool.true_and,zS3];have:=h.dep
 lia
section
variable {X:Cx}
end
def zE8 :PyData->Bool
 |.int _=>true
 |_=>false
def yy (lo hi:Int):PyData->Bool
 |.int i=>decide (lo<=i)&&decide (i<=hi)
 |_=>false
def pairD :PyData->Bool
 |.tuple ds=>decide ((ds.length:Int)=2)
 |_=>false
abbrev iL :PyData->Bool:=yy 0 1000000
def zI2 :PyData->Bool
 |.tuple [a,b]=>iL a&&iL b
 |_=>false
def zr4 :PyData->Option Int
 |.tuple [.int a,.int b]=>if iL (.int a)&&iL (.int b)then some (b-a)else none
 |_=>none
def wj (d:PyData):Bool:=match zr4 d with
 |some k=>decide (0<=k)
 |none=>false
noncomputable def sub (p:Addr->Prop)(H:Hp):Hp:=λa=>open Classical in if p a then H a else none
theorem zj {p:Addr->Prop}{H:Hp}{a:Addr}{o:HO}(h:sub p H a=some o):p a/\H a=some o:=by
 unfold sub at h;split at h
 ·rename_i b;exact⟨b,h⟩
 ·cases h
theorem zF {p:Addr->Prop}{H:Hp}{a:Addr}{o:HO}(b:p a)(h:H a=some o):sub p H a=some o:=by
 unfold sub;rw[if_pos b];exact h
theorem zu {p q:Addr->Prop}{H H':Hp}(h:∀a o,p a->H a=some o->q a/\H' a=some o):zv (sub p H) (sub q H'):=λa o e=>by
 obtain⟨c,he⟩:=zj e;obtain⟨hq,b⟩:=h a o c he;exact zF hq b
theorem xo {p:Addr->Prop}{H:Hp}:zv (sub p H) H:=λ_ _ e=>(zj e).2
theorem yb.snoc {n:Nat}{ds:List PyData}{d:PyData}(h:yb n ds)(hd:zQ n d)(a:d.depth<=7):yb n (ds++[d]):=
 ⟨λe he=>(zK6.mp he).elim (h.all e) λz=>by rw[zK3.mp z];exact hd,λe he=>(zK6.mp he).elim (h.dep e) λz=>by rw[zK3.mp z];exact a⟩
theorem yb.nil {n:Nat}:yb n []:=⟨λd hd=>by simp at hd,λd hd=>by simp at hd⟩
theorem yb.two {n:Nat}{d e:PyData}(hd:zQ n d)(he:zQ n e)(a:d.depth<=7)(b:e.depth<=7):yb n [d,e]:=(yb.nil.snoc hd a).snoc he b
section
variable {X:Cx}{e:Expr}{es:List Expr}
def tu (X:Cx)(e:Expr):TE:=λσ H Q=>∃t,PE X e t/\t σ H Q
theorem zi :PE X e (tu X e):=λpins s σ H Q I a=>by obtain⟨t,p,q⟩:=a;exact p pins s σ H Q I q
def zB4 (X:Cx)(e:Expr):TT:=λσ H Q=>∃t,PT X e t/\t σ H Q
theorem xv :PT X e (zB4 X e):=λpins s σ H Q I a=>by obtain⟨t,p,q⟩:=a;exact p pins s σ H Q I q
def zv7 (X:Cx)(es:List Expr):TA:=λσ H Q=>∃t,PA X es t/\t σ H Q
theorem yN :PA X es (zv7 X es):=λpos pins s σ H Q I a=>by obtain⟨t,p,q⟩:=a;exact p pos pins s σ H Q I q
end
def oP :Key->PyData
 |.inl i=>.int i
 |.inr x=>.str x
def xcO (a C:Addr)(d:Option Addr):HO:=.ext λh=>∃o vs,h.get? a=some o/\o.cls=.ref C/\o.dict=d/\o.data=.fields vs
mutual
inductive AV (H:Hp):V->PyData->Prop where
 |non:AV H .non .none
 |bl (b:Bool):AV H (.bl b) (.bool b)
 |int (i:Int):AV H (.int i) (.int i)
 |str (x:Str):AV H (.str x) (.str x)
 |lst {a:Addr}{xs:List V}{ds:List PyData}:H a=some (.lst xs)->AVs H xs ds->AV H (.ref a) (.list ds)
 |tup {a:Addr}{xs:List V}{ds:List PyData}:H a=some (.tup xs)->AVs H xs ds->AV H (.ref a) (.tuple ds)
 |ins {a C dx:Addr}{fs:List (Str×V)}{ds:List (PyData×PyData)}:H a=some (.ins C dx fs)->AVf H fs ds->AV H (.ref a) (.dict ((.int (C:Nat),.none)::ds))
 |dk {a:Addr}{o:Obj}{kvs:List (Key×V)}{ds:List (PyData×PyData)}:H a=some (.frz o (.dK kvs))->AVk H kvs ds->AV H (.ref a) (.dict ((.none,.none)::ds))
 |dt {a:Addr}{o:Obj}{kvs:List (List Key×V)}{ds:List (PyData×PyData)}:H a=some (.frz o (.dT kvs))->AVt H kvs ds->AV H (.ref a) (.dict ((.none,.bool true)::ds))
 |xc {a C dx:Addr}{fs:List (Str×V)}{ds:List (PyData×PyData)}:H a=some (xcO a C (some dx))->H dx=some (.xd fs)->AVf H fs ds->AV H (.ref a) (.dict ((.int (C:Nat),.bool true)::ds))
 |xn {a C:Addr}:H a=some (xcO a C none)->AV H (.ref a) (.dict [(.int (C:Nat),.bool false)])
inductive AVs (H:Hp):List V->List PyData->Prop where
 |nil:AVs H [] []
 |cons {x:V}{xs:List V}{d:PyData}{ds:List PyData}:AV H x d->AVs H xs ds->AVs H (x::xs) (d::ds)
inductive AVf (H:Hp):List (Str×V)->List (PyData×PyData)->Prop where
 |nil:AVf H [] []
 |cons {f:Str}{x:V}{fs:List (Str×V)}{d:PyData}{ds:List (PyData×PyData)}:AV H x d->AVf H fs ds->AVf H ((f,x)::fs) ((.str f,d)::ds)
inductive AVk (H:Hp):List (Key×V)->List (PyData×PyData)->Prop where
 |nil:AVk H [] []
 |cons {k:Key}{x:V}{fs:List (Key×V)}{d:PyData}{ds:List (PyData×PyData)}:AV H x d->AVk H fs ds->AVk H ((k,x)::fs) ((oP k,d)::ds)
inductive AVt (H:Hp):List (List Key×V)->List (PyData×PyData)->Prop where
 |nil:AVt H [] []
 |cons {k:List Key}{x:V}{fs:List (List Key×V)}{d:PyData}{ds:List (PyData×PyData)}:AV H x d->AVt H fs ds->AVt H ((k,x)::fs) ((.tuple (k.map oP),d)::ds)
end
theorem fU {H:Hp}{m1:V->PyData->Prop}{m2:List V->List PyData->Prop}{m3:List (Str×V)->List (PyData×PyData)->Prop}{m4:List (Key×V)->List (PyData×PyData)->Prop}{m5:List (List Key×V)->List (PyData×PyData)->Prop}
  (n:m1 .non .none) (p:∀b,m1 (.bl b) (.bool b)) (A:∀i,m1 (.int i) (.int i)) (E:∀x,m1 (.str x) (.str x))
  (P:∀{a xs ds},H a=some (.lst xs)->m2 xs ds->m1 (.ref a) (.list ds)) (Q:∀{a xs ds},H a=some (.tup xs)->m2 xs ds->m1 (.ref a) (.tuple ds))
  (M:∀{a C dx fs ds},H a=some (.ins C dx fs)->m3 fs ds->m1 (.ref a) (.dict ((.int (C:Nat),.none)::ds))) (S:∀{a o kvs ds},H a=some (.frz o (.dK kvs))->m4 kvs ds->m1 (.ref a) (.dict ((.none,.none)::ds)))
  (R:∀{a o kvs ds},H a=some (.frz o (.dT kvs))->m5 kvs ds->m1 (.ref a) (.dict ((.none,.bool true)::ds))) (K:∀{a C dx fs ds},H a=some (xcO a C (some dx))->H dx=some (.xd fs)->m3 fs ds->m1 (.ref a) (.dict ((.int (C:Nat),.bool true)::ds)))
  (c:∀{a C},H a=some (xcO a C none)->m1 (.ref a) (.dict [(.int (C:Nat),.bool false)]))
  (n2:m2 [] []) (N:∀{x xs d ds},m1 x d->m2 xs ds->m2 (x::xs) (d::ds)) (m:m3 [] []) (T:∀{f x fs d ds},m1 x d->m3 fs ds->m3 ((f,x)::fs) ((.str f,d)::ds))
  (j:m4 [] []) (U:∀{k x fs d ds},m1 x d->m4 fs ds->m4 ((k,x)::fs) ((oP k,d)::ds)) (t:m5 [] []) (L:∀{k x fs d ds},m1 x d->m5 fs ds->m5 ((k,x)::fs) ((.tuple (k.map oP),d)::ds)):
  (∀x d,AV H x d->m1 x d)/\(∀x d,AVs H x d->m2 x d)/\(∀x d,AVf H x d->m3 x d)/\(∀x d,AVk H x d->m4 x d)/\∀x d,AVt H x d->m5 x d:=by
 have w:=λ{a} {xs} {ds} (q:H a=some (.lst xs)) (_:AVs H xs ds) (z:m2 xs ds)=>P q z;have g:=λ{a} {xs} {ds} (q:H a=some (.tup xs)) (_:AVs H xs ds) (z:m2 xs ds)=>Q q z;have l:=λ{a C dx} {fs} {ds} (q:H a=some (.ins C dx fs)) (_:AVf H fs ds) (z:m3 fs ds)=>M q z;have F:=λ{a o} {fs} {ds} (q:H a=some (.frz o (.dK fs))) (_:AVk H fs ds) (z:m4 fs ds)=>S q z;have J:=λ{a o} {fs} {ds} (q:H a=some (.frz o (.dT fs))) (_:AVt H fs ds) (z:m5 fs ds)=>R q z;have e:=λ{a C dx} {fs} {ds} (q:H a=some (xcO a C (some dx))) (O:H dx=some (.xd fs)) (_:AVf H fs ds) (z:m3 fs ds)=>K q O z;have v:=λ{x} {xs} {d} {ds} (_:AV H x d) (_:AVs H xs ds) (y:m1 x d) (z:m2 xs ds)=>N y z;have r:=λ{f} {x} {fs} {d} {ds} (_:AV H x d) (_:AVf H fs ds) (y:m1 x d) (z:m3 fs ds)=>T (f:=f) y z;have s:=λ{k} {x} {fs} {d} {ds} (_:AV H x d) (_:AVk H fs ds) (y:m1 x d) (z:m4 fs ds)=>U (k:=k) y z;have G:=λ{k} {x} {fs} {d} {ds} (_:AV H x d) (_:AVt H fs ds) (y:m1 x d) (z:m5 fs ds)=>L (k:=k) y z
 let D:=λx d (_:AV H x d)=>m1 x d
 let M2:=λx d (_:AVs H x d)=>m2 x d
 let B:=λx d (_:AVf H x d)=>m3 x d
 let I:=λx d (_:AVk H x d)=>m4 x d
 let u:=λx d (_:AVt H x d)=>m5 x d
 exact⟨λ_ _ h=>@AV.rec H D M2 B I u n p A E w g l F J e c n2 v m r j s t G _ _ h,λ_ _ h=>@AVs.rec H D M2 B I u n p A E w g l F J e c n2 v m r j s t G _ _ h,λ_ _ h=>@AVf.rec H D M2 B I u n p A E w g l F J e c n2 v m r j s t G _ _ h,λ_ _ h=>@AVk.rec H D M2 B I u n p A E w g l F J e c n2 v m r j s t G _ _ h,λ_ _ h=>@AVt.rec H D M2 B I u n p A E w g l F J e c n2 v m r j s t G _ _ h⟩
theorem AVs.ind {H:Hp}{motive:(xs:List V)->(ds:List PyData)->AVs H xs ds->Prop}(nil:motive [] [] .nil)(cons:∀{x:V}{xs:List V}{d:PyData}{ds:List PyData} (a:AV H x d) (r:AVs H xs ds),motive xs ds r->motive (x::xs) (d::ds) (.cons a r)){xs:List V}{ds:List PyData}(h:AVs H xs ds):motive xs ds h:=
 ((fU (m1:=AV H) (m2:=λxs ds=>∃h:AVs H xs ds,motive xs ds h) (m3:=AVf H) (m4:=AVk H) (m5:=AVt H) .non .bl .int .str (λq z=>.lst q z.1) (λq z=>.tup q z.1) .ins .dk .dt .xc .xn ⟨.nil,nil⟩ (λa z=>⟨.cons a z.1,cons a z.1 z.2⟩) .nil .cons .nil .cons .nil .cons).2.1 _ _ h).2
theorem AVf.ind {H:Hp}{motive:(xs:List (Str×V))->(ds:List (PyData×PyData))->AVf H xs ds->Prop}(nil:motive [] [] .nil)(cons:∀{f:Str}{x:V}{fs:List (Str×V)}{d:PyData}{ds:List (PyData×PyData)} (a:AV H x d) (r:AVf H fs ds),motive fs ds r->motive ((f,x)::fs) ((.str f,d)::ds) (.cons a r)){xs:List (Str×V)}{ds:List (PyData×PyData)}(h:AVf H xs ds):motive xs ds h:=
 ((fU (m1:=AV H) (m2:=AVs H) (m3:=λxs ds=>∃h:AVf H xs ds,motive xs ds h) (m4:=AVk H) (m5:=AVt H) .non .bl .int .str .lst .tup (λq z=>.ins q z.1) .dk .dt (λq s z=>.xc q s z.1) .xn .nil .cons ⟨.nil,nil⟩ (λa z=>⟨.cons a z.1,cons a z.1 z.2⟩) .nil .cons .nil .cons).2.2.1 _ _ h).2
theorem cJ {H H':Hp}(e:zv H H'):(∀x d,AV H x d->AV H' x d)/\(∀x d,AVs H x d->AVs H' x d)/\(∀x d,AVf H x d->AVf H' x d)/\(∀x d,AVk H x d->AVk H' x d)/\∀x d,AVt H x d->AVt H' x d:=by refine fU (m1:=λx d=>AV H' x d) (m2:=λx d=>AVs H' x d) (m3:=λx d=>AVf H' x d) (m4:=λx d=>AVk H' x d) (m5:=λx d=>AVt H' x d) .non .bl .int .str (λhq a=>.lst (e _ _ hq) a) (λhq a=>.tup (e _ _ hq) a) (λhq a=>.ins (e _ _ hq) a) (λhq a=>.dk (e _ _ hq) a) (λhq a=>.dt (e _ _ hq) a) (λhq hd a=>.xc (e _ _ hq) (e _ _ hd) a) (λhq=>.xn (e _ _ hq)) .nil .cons .nil .cons .nil .cons .nil .cons
theorem AV.same {H H':Hp}(e:zv H H'){x:V}{d:PyData}(h:AV H x d):AV H' x d:=(cJ e).1 _ _ h
theorem AVs.same {H H':Hp}(e:zv H H'){xs:List V}{ds:List PyData}(h:AVs H xs ds):AVs H' xs ds:=(cJ e).2.1 _ _ h
theorem AVk.same {H H':Hp}(e:zv H H'){fs:List (Key×V)}{ds:List (PyData×PyData)}(h:AVk H fs ds):AVk H' fs ds:=(cJ e).2.2.2.1 _ _ h
theorem dv5 {H:Hp}:(∀x d,AV H x d->d.hasDict=false->DV H x d)/\(∀x d,AVs H x d->PyData.hasDictAll d=false->DVs H x d):=by
 have r:=fU (H:=H) (m1:=λx d=>d.hasDict=false->DV H x d) (m2:=λx d=>PyData.hasDictAll d=false->DVs H x d) (m3:=λ_ _=>True) (m4:=λ_ _=>True) (m5:=λ_ _=>True) (λ_=>.non) (λb _=>.bl b) (λi _=>.int i) (λx _=>.str x) (λhq a h=>.lst hq (a (by simpa only[PyData.hasDict]using h))) (λhq a h=>.tup hq (a (by simpa only[PyData.hasDict]using h))) (λ_ _ h=>by simp[PyData.hasDict]at h) (λ_ _ h=>by simp[PyData.hasDict]at h) (λ_ _ h=>by simp[PyData.hasDict]at h) (λ_ _ _ h=>by simp[PyData.hasDict]at h) (λ_ h=>by simp[PyData.hasDict]at h) (λ_=>.nil)
  (λh a e=>by
   simp only[PyData.hasDictAll,Bool.or_eq_false_iff]at e;exact .cons (h e.1) (a e.2)) trivial (λ_ _=>trivial) trivial (λ_ _=>trivial) trivial (λ_ _=>trivial)
 exact⟨r.1,r.2.1⟩
theorem AV.dv {H:Hp}{x:V}{d:PyData}(h:AV H x d)(e:d.hasDict=false):DV H x d:=dv5.1 _ _ h e
theorem AVs.length {H:Hp}{xs:List V}{ds:List PyData}(h:AVs H xs ds):xs.length=ds.length:=h.ind (motive:=λxs ds _=>xs.length=ds.length) rfl λ_ _ z=>congrArg (·+1) z
theorem AVs.append {H:Hp}{xs ys:List V}{ds es:List PyData}(h:AVs H xs ds)(k:AVs H ys es):AVs H (xs++ys) (ds++es):=h.ind (motive:=λxs ds _=>AVs H (xs++ys) (ds++es)) k λa _ z=>.cons a z
theorem AVs.get {H:Hp}{xs:List V}{ds:List PyData}{i:Nat}{d:PyData}(h:AVs H xs ds)(e:ds[i]?=some d):∃x,xs[i]?=some x/\AV H x d:=by
 induction h using AVs.ind generalizing i with
 |nil=>simp at e
 |cons a _ b=>
  cases i with
  |zero=>exact⟨_,rfl,zM7 e▸a⟩
  |succ i=>exact b (i:=i) e
theorem AVs.take {H:Hp}{xs:List V}{ds:List PyData}(n:Nat)(h:AVs H xs ds):AVs H (xs.take n) (ds.take n):=by
 induction h using AVs.ind generalizing n with
 |nil=>cases n<;>exact .nil
 |cons a _ b=>
  cases n with
  |zero=>exact .nil
  |succ n=>exact .cons a (b n)
theorem AVs.drop {H:Hp}{xs:List V}{ds:List PyData}(n:Nat)(h:AVs H xs ds):AVs H (xs.drop n) (ds.drop n):=by
 induction h using AVs.ind generalizing n with
 |nil=>cases n<;>exact .nil
 |cons a r b=>
  cases n with
  |zero=>exact .cons a r
  |succ n=>exact b n
theorem AVs.set {H:Hp}{x:V}{d:PyData}(a:AV H x d){xs:List V}{ds:List PyData}(i:Nat)(h:AVs H xs ds):AVs H (xs.set i x) (ds.set i d):=by
 induction h using AVs.ind generalizing i with
 |nil=>exact .nil
 |cons q r b=>
  cases i with
  |zero=>exact .cons a r
  |succ i=>exact .cons q (b i)
theorem AVs.atI {H:Hp}{xs:List V}{ds:List PyData}{i:Int}{d:PyData}(h:AVs H xs ds)(e:atI ds i=some d):∃x,L2.atI xs i=some x/\AV H x d:=by
 unfold L2.atI at e ⊢;rw[h.length];cases q:ixN ds.length i with
 |none=>rw[q]at e;cases e
 |some j=>
  rw[q]at e;exact h.get (i:=j) e
def cutD (ds:List PyData)(lo hi:Option Int):List PyData:=(ds.drop (HT.sIx ds.length 0 lo)).take (HT.sIx ds.length ds.length hi-HT.sIx ds.length 0 lo)
theorem AVs.cut {H:Hp}{xs:List V}{ds:List PyData}(h:AVs H xs ds)(lo hi:Option Int):AVs H (pL xs lo hi) (cutD ds lo hi):=by
 unfold pL cutD;rw[h.length];exact(h.drop _).take _
mutual
def noL :PyData->Bool
 |.list _=>false
 |.dict ((.none,_)::_)=>false
 |.dict kvs=>tU kvs
 |.tuple ds=>uq ds
 |_=>true
def uq :List PyData->Bool
 |[]=>true
 |d::r=>noL d&&uq r
def tU :List (PyData×PyData)->Bool
 |[]=>true
 |(_,d)::r=>noL d&&tU r
end
def Ob :HO->Prop
 |.lst _=>True
 |.dK _=>True
 |.frz _ _=>True
 |_=>False
theorem zA1 {H H':Hp}(e:∀a o,¬Ob o->H a=some o->H' a=some o):(∀x d,AV H x d->noL d=true->AV H' x d)/\(∀x d,AVs H x d->uq d=true->AVs H' x d)/\(∀x d,AVf H x d->tU d=true->AVf H' x d)/\(∀x d,AVk H x d->tU d=true->AVk H' x d):=by
 have r:=fU (H:=H) (m1:=λx d=>noL d=true->AV H' x d) (m2:=λx d=>uq d=true->AVs H' x d) (m3:=λx d=>tU d=true->AVf H' x d) (m4:=λx d=>tU d=true->AVk H' x d) (m5:=λ_ _=>True) (λ_=>.non) (λb _=>.bl b) (λi _=>.int i) (λx _=>.str x) (λ_ _ h=>by simp[L2.noL]at h) (λhq c h=>.tup (e _ _ (λz=>z) hq) (c (by simpa only[L2.noL]using h))) (λhq c h=>.ins (e _ _ (λz=>z) hq) (c (by simpa[L2.noL,L2.tU]using h))) (λ_ _ h=>by simp[L2.noL]at h) (λ_ _ h=>by simp[L2.noL]at h) (λhq hd c h=>.xc (e _ _ (λz=>z) hq) (e _ _ (λz=>z) hd) (c (by simpa[L2.noL,L2.tU]using h))) (λhq _=>.xn (e _ _ (λz=>z) hq)) (λ_=>.nil)
  (λh c q=>by
   simp only[L2.uq,zN3]at q;exact .cons (h q.1) (c q.2)) (λ_=>.nil)
  (λh c q=>by
   simp only[L2.tU,zN3]at q;exact .cons (h q.1) (c q.2)) (λ_=>.nil)
  (λh c q=>by
   simp only[L2.tU,zN3]at q;exact .cons (h q.1) (c q.2)) trivial (λ_ _=>trivial)
 exact⟨r.1,r.2.1,r.2.2.1,r.2.2.2.1⟩
theorem AV.noL {H H':Hp}(e:∀a o,¬Ob o->H a=some o->H' a=some o){x:V}{d:PyData}(h:AV H x d)(q:L2.noL d=true):AV H' x d:=(zA1 e).1 _ _ h q
theorem AVs.noL {H H':Hp}(e:∀a o,¬Ob o->H a=some o->H' a=some o){xs:List V}{ds:List PyData}(h:AVs H xs ds)(q:uq ds=true):AVs H' xs ds:=(zA1 e).2.1 _ _ h q
structure Fr where
 H0:Hp
 O0:Addr->Prop
 tp:Option (Addr×Addr×Addr)
inductive A where
 |dat (d:PyData)
 |ow (c:PyData)
 |deep (d:PyData) (S:Addr->Prop)
 |tape
 |at(l:Addr)
 |exc (r:Fr) (q:PyData->Prop)
 |pin (l:Addr) (vs:List V) (ds:List PyData)
 |nst (l:Addr) (ls:List Addr) (dss:List (List PyData))
@[reducible] def A.own (ds:List PyData):A:=.ow (.list ds)
abbrev za3 (ds:List (PyData×PyData)):PyData:=.dict ((.none,.none)::ds)
abbrev Ev :=List (Option A)
def wo (o:HO):Prop:=∀a,o≠.tup a
theorem xO {xs:List V}:wo (.lst xs):=λ_ z=>by cases z
theorem Ob.notup {o:HO}(h:Ob o):wo o:=λa z=>by subst z;exact h
def NT (F:Fr)(x:Addr):Prop:=(∀t b c,F.tp=some (t,b,c)->x≠t/\x≠b)/\¬uM x
def Kz (F:Fr)(H H':Hp):Prop:=∀x o,H x=some o->NT F x->H' x=some o
structure zB (F:Fr)(H:Hp):Prop where
 tab:TabAt H
 ot:∀x,uM x->F.O0 x
 all:∀t b c,F.tp=some (t,b,c)->yH H t b c/\F.O0 t/\F.O0 b/\F.O0 c
instance {F:Fr} {H:Hp}:CoeFun (zB F H) (λ_=>∀t b c,F.tp=some (t,b,c)->yH H t b c/\F.O0 t/\F.O0 b/\F.O0 c):=⟨zB.all⟩
theorem zB.to {F F':Fr}{H:Hp}(t:zB F H)(f:F'.tp=F.tp)(d:∀x,F.O0 x->F'.O0 x):zB F' H:=⟨t.tab,λx h=>d x (t.ot x h),λa b c e=>by
 obtain⟨g,i,j,k⟩:=t a b c (f▸e);exact⟨g,d _ i,d _ j,d _ k⟩⟩
theorem zB.re {F F':Fr}{H H':Hp}(t:zB F H)(t':zB F' H')(d:F'.tp=F.tp):zB F H':=⟨t'.tab,t.ot,λa b c e=>⟨(t' a b c (d▸e)).1,(t a b c e).2⟩⟩
theorem zB.upd {F:Fr}{H:Hp}{l:Addr}{o:HO}(t:zB F H)(h:∀a b c,F.tp=some (a,b,c)->l≠a/\l≠b/\l≠c)(d:Plain H l):zB F (upd H l o):=⟨aD t.tab d,t.ot,λa b c e=>⟨dM (t a b c e).1 (h a b c e),(t a b c e).2⟩⟩
theorem zB.updO {F:Fr}{H:Hp}{l:Addr}{o:HO}(t:zB F H)(h:¬F.O0 l)(d:Plain H l):zB F (L2.upd H l o):=t.upd (λa b c e=>⟨λz=>h (by rw[z];exact(t a b c e).2.1),λz=>h (by rw[z];exact(t a b c e).2.2.1),λz=>h (by rw[z];exact(t a b c e).2.2.2)⟩) d
def foot (s:Option V):A->Addr->Prop
 |.ow _,x=>s=some (.ref x)
 |.deep _ S,x=>S x
 |.nst l ls _,x=>x∈l::ls
 |_,_=>False
def Ow (F:Fr)(α:Ev)(σ:St)(x:Addr):Prop:=F.O0 x\/∃(i:Nat) (a:A) (s:Option V),α[i]?=some (some a)/\σ[i]?=some s/\foot s a x
noncomputable abbrev Gz (F:Fr)(α:Ev)(σ:St)(H:Hp):Hp:=sub (λx=>¬Ow F α σ x) H
noncomputable def nL (S:Addr->Prop)(G H:Hp):Hp:=λx=>open Classical in if S x then H x else match G x with
 |some (.lst _)=>none
 |o=>o
theorem uw {S:Addr->Prop}{G a H H':Hp}(h:zv G a)(b:∀x o,S x->H x=some o->H' x=some o):zv (nL S G H) (nL S a H'):=λx o e=>by
 unfold nL at e ⊢;by_cases z:S x
 ·rw[if_pos z]at e ⊢;exact b x o z e
 ·rw[if_neg z]at e ⊢;cases q:G x with
  |none=>rw[q]at e;cases e
  |some u=>
   rw[h _ _ q];rw[q]at e;exact e
theorem eU {S:Addr->Prop}{G H:Hp}{x:Addr}{o:HO}(h:nL S G H x=some o):(S x/\H x=some o)\/(¬S x/\G x=some o):=by
 unfold nL at h;by_cases z:S x
 ·rw[if_pos z]at h;exact .inl ⟨z,h⟩
 ·rw[if_neg z]at h;split at h
  ·cases h
  ·exact .inr ⟨z,h⟩
inductive yO (G:Hp):HO->PyData->Prop where
 |lst {xs:List V}{ds:List PyData}:AVs G xs ds->yO G (.lst xs) (.list ds)
 |dk {kvs:List (Key×V)}{ds:List (PyData×PyData)}:AVk G kvs ds->yO G (.dK kvs) (za3 ds)
theorem yO.ob {G:Hp}{o:HO}{c:PyData}(h:yO G o c):Ob o:=by cases h<;>trivial
theorem yO.same {G a:Hp}{o:HO}{c:PyData}(h:yO G o c)(s:zv G a):yO a o c:=by
 cases h with
 |lst h=>exact .lst (h.same s)
 |dk h=>exact .dk (h.same s)
theorem yO.av {G:Hp}{o:HO}{ds:List PyData}{l:Addr}(h:yO G o (.list ds))(e:G l=some o):AV G (.ref l) (.list ds):=by
 cases h with
 |lst h=>exact .lst e h
theorem yO.lst_inv {G:Hp}{o:HO}{ds:List PyData}(h:yO G o (.list ds)):∃xs,o=.lst xs/\AVs G xs ds:=by cases h;exact⟨_,rfl,by assumption⟩
theorem yO.plain {G H:Hp}{o:HO}{c:PyData}{l:Addr}(h:yO G o c)(e:H l=some o):Plain H l:=by
 cases h with
 |lst h=>exact qj e
 |dk h=>exact gZ e
structure Lnk (r F:Fr)(H:Hp):Prop where
 tp:r.tp=F.tp
 o:∀x,r.O0 x->F.O0 x
 ok:zB r H
 k:Kz r r.H0 H
def xK (G H:Hp):List Addr->List (List PyData)->Prop
 |[],[]=>True
 |a::ls,ds::dss=>(∃xs,H a=some (.lst xs)/\AVs G xs ds)/\xK G H ls dss
 |_,_=>False
theorem xK.same {G c H H':Hp}(g:zv G c):∀{ls:List Addr}{dss:List (List PyData)},(∀a∈ls,∀o,H a=some o->H' a=some o)->xK G H ls dss->xK c H' ls dss
 |[],[],_,_=>trivial
 |a::ls,ds::dss,h,⟨⟨xs,e,av⟩,r⟩=>⟨⟨xs,h a zJ6 _ e,av.same g⟩,xK.same g (λb hb=>h b (zJ2 _ hb)) r⟩
 |[],_::_,_,z=>z.elim
 |_::_,[],_,z=>z.elim
theorem xK.obj {G H:Hp}:∀{ls:List Addr}{dss:List (List PyData)},xK G H ls dss->∀a∈ls,∃xs,H a=some (.lst xs)
 |[],_,_,_,h=>by cases h
 |b::ls,ds::dss,⟨⟨xs,e,_⟩,r⟩,a,h=>by
  rcases zJ1.mp h with z|z
  ·exact⟨xs,z▸e⟩
  ·exact xK.obj r a z
 |_::_,[],z,_,_=>z.elim
theorem xK.avs {G H:Hp}{p:Addr->Prop}(g:zv G (sub p H)):∀{ls:List Addr}{dss:List (List PyData)},(∀a∈ls,p a)->xK G H ls dss->AVs (sub p H) (ls.map .ref) (dss.map .list)
 |[],[],_,_=>.nil
 |a::ls,ds::dss,h,⟨⟨xs,e,av⟩,r⟩=>.cons (.lst (zF (h a zJ6) e) (av.same g)) (xK.avs g (λb hb=>h b (zJ2 _ hb)) r)
 |[],_::_,_,z=>z.elim
 |_::_,[],_,z=>z.elim
def xE (G:Hp)(F:Fr)(H:Hp)(s:Option V):A->Prop
 |.dat d=>∃v,s=some v/\AV G v d
 |.ow c=>∃l o,s=some (.ref l)/\H l=some o/\yO G o c/\¬F.O0 l/\F.H0 l=none
 |.deep d S=>∃v,s=some v/\AV (nL S G H) v d/\∀x,S x->¬F.O0 x/\F.H0 x=none/\∃xs,H x=some (.lst xs)
 |.tape=>∃t b c,F.tp=some (t,b,c)/\s=some (.ref t)
 |.at l=>s=some (.ref l)
 |.exc r _=>Lnk r F H
 |.pin l vs ds=>s=some (.ref l)/\G l=some (.lst vs)/\AVs G vs ds
 |.nst l ls dss=>s=some (.ref l)/\H l=some (.lst (ls.map .ref))/\xK G H ls dss/\(l::ls).Nodup/\∀x∈l::ls,¬F.O0 x/\F.H0 x=none
structure M (F:Fr)(α:Ev)(σ:St)(H:Hp):Prop where
 len:α.length=σ.length
 ok:∀(i:Nat) (a:A) (s:Option V),α[i]?=some (some a)->σ[i]?=some s->xE (Gz F α σ H) F H s a
 dj:∀(i j:Nat) (a b:A) (s t:Option V) (x:Addr),α[i]?=some (some a)->α[j]?=some (some b)->σ[i]?=some s->σ[j]?=some t->foot s a x->foot t b x->i=j
 xd:∀(i:Nat) (r:Fr) (q:PyData->Prop),α[i]?=some (some (.exc r q))->∀(j:Nat) (a:A) (s:Option V) (x:Addr),α[j]?=some (some a)->σ[j]?=some s->foot s a x->r.H0 x=none
 tp:zB F H
 keep:Kz F F.H0 H
 oex:∀x,F.O0 x->∃o,H x=some o/\wo o
theorem M.at' {F:Fr}{α:Ev}{σ:St}{H:Hp}(m:M F α σ H){i:Nat}{a:Option A}(e:α[i]?=some a):∃s,σ[i]?=some s:=by
 have:i<σ.length:=by rw[<-m.len];exact(zI8.mp e).1
 exact⟨_,zI7 this⟩
theorem qV {G:Hp}{F:Fr}{H:Hp}{s:Option V}{a:A}{x:Addr}(h:xE G F H s a)(f:foot s a x):¬F.O0 x/\F.H0 x=none/\∃o,H x=some o/\Ob o:=by
 cases a with
 |ow c=>
  obtain⟨l,o,k,i,b,m,j⟩:=h;have g:s=some (.ref x):=f;rw[g]at k;cases k;exact⟨m,j,o,i,b.ob⟩
 |deep d S=>
  obtain⟨v,k,i,b⟩:=h;obtain⟨p,n,xs,z3⟩:=b x f;exact⟨p,n,_,z3,trivial⟩
 |dat d=>exact f.elim
 |tape=>exact f.elim
 |«at» l=>exact f.elim
 |exc r q=>exact f.elim
 |pin l vs ds=>exact f.elim
 |nst l ls dss=>
  obtain⟨k,i,b,m,j⟩:=h;have g:x∈l::ls:=f;refine⟨(j x g).1,(j x g).2,?_⟩;rcases zJ1.mp g with z|z
  ·exact⟨.lst (ls.map .ref),z▸i,trivial⟩
  ·obtain⟨xs,e⟩:=b.obj x z;exact⟨.lst xs,e,trivial⟩
theorem Lnk.kz {r F:Fr}{H H':Hp}(l:Lnk r F H)(k:Kz F H H')(t:zB F H'):Lnk r F H':=⟨l.tp,l.o,l.ok.re t l.tp.symm,λx o e n=>k x o (l.k x o e n) ⟨λa b c z=>n.1 a b c (l.tp.trans z),n.2⟩⟩
theorem Lnk.none {r F:Fr}{H:Hp}(l:Lnk r F H){x:Addr}(h:H x=Option.none):r.H0 x=Option.none:=by
 cases q:r.H0 x with
 |none=>rfl
 |some o=>rw[l.k x o q ⟨λa b c e=>⟨((l.ok a b c e).1.free h).1,((l.ok a b c e).1.free h).2.1⟩,vS l.ok.tab h⟩]at h;cases h
def noX :A->Prop
 |.exc _ _=>False
 |_=>True
theorem xE.stay {G p:Hp}{F F':Fr}{H H':Hp}{s:Option V}{a:A}(h:xE G F H s a)(g:zv G p)(hf:∀x o,foot s a x->H x=some o->H' x=some o/\¬F'.O0 x/\F'.H0 x=none)(B:F'.tp=F.tp)(w:∀r q,a=.exc r q->Lnk r F H->Lnk r F' H'):xE p F' H' s a:=by
 cases a with
 |dat d=>obtain⟨v,i,f⟩:=h;exact⟨v,i,f.same g⟩
 |ow c=>
  obtain⟨l,o,i,f,j,u,y⟩:=h;obtain⟨m,k,z3⟩:=hf l o i f;exact⟨l,o,i,m,j.same g,k,z3⟩
 |deep d S=>
  obtain⟨v,i,f,j⟩:=h;refine⟨v,i,f.same (uw g λx o z e=>(hf x o z e).1),λx z=>?_⟩;obtain⟨_,_,xs,e⟩:=j x z;obtain⟨m,k,z3⟩:=hf x _ z e;exact⟨k,z3,xs,m⟩
 |tape=>obtain⟨t,b,c,e,z⟩:=h;exact⟨t,b,c,B.trans e,z⟩
 |«at» l=>exact h
 |exc r q=>exact w r q rfl h
 |pin l vs ds=>exact⟨h.1,g _ _ h.2.1,h.2.2.same g⟩
 |nst l ls dss=>
  obtain⟨i,f,j,u,y⟩:=h;refine⟨i,(hf l _ zJ6 f).1,j.same g λa ha o e=>(hf a o (zJ2 _ ha) e).1,u,λx n=>?_⟩;rcases zJ1.mp n with z|z
  ·exact(hf x _ n (z▸f)).2
  ·obtain⟨xs,e⟩:=j.obj x z;exact(hf x _ n e).2
section
variable {F:Fr}{α:Ev}{σ:St}{H H' H'':Hp}
theorem M.dat (m:M F α σ H)(i:Nat)(d:PyData)(e:α[i]?=some (some (.dat d))):∃v,σ[i]?=some (some v)/\AV (Gz F α σ H) v d:=by
 obtain⟨s,a⟩:=m.at' e;obtain⟨v,rfl,h⟩:=m.ok i _ s e a;exact⟨v,a,h⟩
theorem M.owc (m:M F α σ H)(i:Nat)(c:PyData)(e:α[i]?=some (some (.ow c))):∃l o,σ[i]?=some (some (.ref l))/\H l=some o/\yO (Gz F α σ H) o c/\¬F.O0 l/\F.H0 l=none:=by
 obtain⟨s,a⟩:=m.at' e;obtain⟨l,o,rfl,h⟩:=m.ok i _ s e a;exact⟨l,o,a,h⟩
theorem M.own (m:M F α σ H)(i:Nat)(ds:List PyData)(e:α[i]?=some (some (.own ds))):∃l xs,σ[i]?=some (some (.ref l))/\H l=some (.lst xs)/\AVs (Gz F α σ H) xs ds/\¬F.O0 l/\F.H0 l=none:=by
 obtain⟨l,o,b,c,d,f⟩:=m.owc i _ e;obtain⟨xs,rfl,a⟩:=d.lst_inv;exact⟨l,xs,b,c,a,f⟩
theorem M.tvar (m:M F α σ H)(i:Nat)(e:α[i]?=some (some .tape)):∃t b c,F.tp=some (t,b,c)/\σ[i]?=some (some (.ref t)):=by
 obtain⟨s,a⟩:=m.at' e;obtain⟨t,b,c,h,rfl⟩:=m.ok i _ s e a;exact⟨t,b,c,h,a⟩
theorem M.lnk (m:M F α σ H){i:Nat}{r:Fr}{q:PyData->Prop}(e:α[i]?=some (some (.exc r q))):Lnk r F H:=by
 obtain⟨s,a⟩:=m.at' e;exact m.ok i _ s e a
theorem Kz.refl :Kz F H H:=λ_ _ e _=>e
theorem Kz.trans (h:Kz F H H')(k:Kz F H' H''):Kz F H H'':=λx o e n=>k x o (h x o e n) n
theorem Kz.of_same (h:zv H H'):Kz F H H':=λx o e _=>h x o e
theorem zB.same (t:zB F H)(h:zv H H'):zB F H':=⟨zk4 t.tab h,t.ot,λa b c e=>⟨jN (t a b c e).1 h,(t a b c e).2⟩⟩
theorem zB.nt (t:zB F H){x:Addr}(h:¬F.O0 x):NT F x:=⟨λa b c e=>⟨λz=>h (z▸(t a b c e).2.1),λz=>h (z▸(t a b c e).2.2.1)⟩,λz=>h (t.ot x z)⟩
theorem ow0 {x:Addr}(h:¬Ow F α σ x):¬F.O0 x:=λz=>h (.inl z)
theorem Kz.gz (k:Kz F H H')(t:zB F H):zv (Gz F α σ H) (Gz F α σ H'):=zu λa o h e=>⟨h,k a o e (t.nt (ow0 h))⟩
theorem M.oex' (t:zB F H')(k:Kz F H H')(h:∀x,F.O0 x->∃o,H x=some o/\wo o):∀x,F.O0 x->∃o,H' x=some o/\wo o:=λx i=>by
 by_cases n:NT F x
 ·obtain⟨o,d,hn⟩:=h x i;exact⟨o,k _ _ d n,hn⟩
 ·by_cases z:uM x
  ·obtain⟨o,d,hn,_⟩:=tJ t.tab z;exact⟨o,d,hn⟩
  ·have:∃a b c,F.tp=some (a,b,c)/\¬(x≠a/\x≠b):=by
    refine zZ5 λq=>n ⟨λa b c e=>?_,z⟩;exact zZ5 λw=>q ⟨a,b,c,e,w⟩
   obtain⟨a,b,c,e,w⟩:=this;obtain⟨n,bs,cs,_,e1,j,l,_⟩:=(t a b c e).1.ex;by_cases g:x=a
   ·exact⟨_,g▸e1,xO⟩
   ·by_cases f:x=b
    ·exact⟨_,f▸j,xO⟩
    ·exact absurd ⟨g,f⟩ w
theorem M.kz (m:M F α σ H)(k:Kz F H H')(t:zB F H'):M F α σ H' where
 len:=m.len
 ok:=λi a s e1 b=>(m.ok i a s e1 b).stay (k.gz m.tp) (λx o hf e=>by
  obtain⟨c,d,_⟩:=qV (m.ok i a s e1 b) hf;exact⟨k x o e (m.tp.nt c),c,d⟩) rfl λr _ _ l=>l.kz k t
 dj:=m.dj
 xd:=m.xd
 tp:=t
 keep:=m.keep.trans k
 oex:=M.oex' t k m.oex
theorem M.ft (m:M F α σ H){i:Nat}{a:A}{s:Option V}{x:Addr}(e1:α[i]?=some (some a))(b:σ[i]?=some s)(f:foot s a x):¬F.O0 x/\F.H0 x=none/\∃o,H x=some o/\Ob o:=qV (m.ok i a s e1 b) f
theorem M.owEx (m:M F α σ H){x:Addr}(h:Ow F α σ x):∃o,H x=some o/\wo o:=by
 rcases h with z|⟨i,a,s,e1,c,f⟩
 ·exact m.oex x z
 ·obtain⟨_,_,o,b,hb⟩:=m.ft e1 c f;exact⟨o,b,hb.notup⟩
theorem M.fresh (m:M F α σ H){l:Addr}(h:H l=none):¬Ow F α σ l:=λz=>by
 obtain⟨o,a,_⟩:=m.owEx z;rw[h]at a;cases a
theorem M.fresh0 (m:M F α σ H){l:Addr}(h:H l=none):F.H0 l=none:=by
 cases q:F.H0 l with
 |none=>rfl
 |some o=>rw[m.keep l o q (m.tp.nt λz=>m.fresh h (.inl z))]at h;cases h
theorem M.old (m:M F α σ H):zv (sub (λx=>¬F.O0 x) F.H0) (Gz F α σ H):=λa o e=>by
 obtain⟨c,d⟩:=zj e;refine zF ?_ (m.keep a o d (m.tp.nt c));rintro(z|⟨i,b,s,e1,g,f⟩)
 ·exact c z
 ·obtain⟨_,z,_⟩:=m.ft e1 g f;rw[d]at z;cases z
noncomputable def Fr.up (F:Fr)(G:Hp):Fr:={F with H0:=λx=>(F.H0 x).or (G x)}
theorem qT {G:Hp}{x:Addr}{o:HO}(h:F.H0 x=some o):(F.up G).H0 x=some o:=by show(F.H0 x).or (G x)=some o;rw[h];rfl
theorem kR {G:Hp}{x:Addr}(h:(F.up G).H0 x=none):F.H0 x=none:=by
 cases q:F.H0 x with
 |none=>rfl
 |some o=>rw[qT q]at h;cases h
theorem M.up (m:M F α σ H):M (F.up (Gz F α σ H)) α σ H where
 len:=m.len
 ok:=λi a s e1 c=>(m.ok i a s e1 c).stay (λ_ _ e=>e) (λx o hf e=>by
  obtain⟨d,f,_⟩:=m.ft e1 c hf;refine⟨e,d,?_⟩;show(F.H0 x).or (Gz F α σ H x)=none;rw[f];show Gz F α σ H x=none;cases q:Gz F α σ H x with
  |none=>rfl
  |some o=>exact absurd (.inr ⟨i,a,s,e1,c,hf⟩) (zj q).1) rfl λr _ _ l=>⟨l.tp,l.o,l.ok,l.k⟩
 dj:=m.dj
 xd:=m.xd
 tp:=m.tp.to rfl λ_ z=>z
 keep:=λx o e n=>by
  have b:(F.H0 x).or (Gz F α σ H x)=some o:=e;cases q:F.H0 x with
  |none=>rw[q,Option.none_or]at b;exact(zj b).2
  |some o'=>rw[q]at b;cases b;exact m.keep x _ q n
 oex:=m.oex
theorem M.down {G:Hp}(m:M (F.up G) α σ H):M F α σ H where
 len:=m.len
 ok:=λi a s e1 b=>(m.ok i a s e1 b).stay (λ_ _ e=>e) (λx o hf e=>by
  obtain⟨c,d,_⟩:=m.ft e1 b hf;exact⟨e,c,kR d⟩) rfl λr _ _ l=>⟨l.tp,l.o,l.ok,l.k⟩
 dj:=m.dj
 xd:=m.xd
 tp:=m.tp.to rfl λ_ z=>z
 keep:=λx o e n=>m.keep x o (qT e) n
 oex:=m.oex
theorem M.upold {α0:Ev}{b:St}{H1:Hp}(m0:M F α0 b H1)(m:M (F.up (Gz F α0 b H1)) α σ H):zv (Gz F α0 b H1) (Gz F α σ H):=λa o e=>by
 obtain⟨c,f⟩:=zj e;have d:(F.up (Gz F α0 b H1)).H0 a=some o:=by
  show(F.H0 a).or (Gz F α0 b H1 a)=some o;cases q:F.H0 a with
  |none=>exact e
  |some o'=>
   have:=m0.keep a o' q (m0.tp.nt (ow0 c));rw[f]at this;cases this;rfl
 exact m.old a o (zF (p:=λx=>¬F.O0 x) (ow0 c) d)
end
def yM (F:Fr)(α:Ev)(σ:St)(H:Hp)(v:V)(H':Hp)(ds:List PyData):Prop:=
 ∃l xs,v=.ref l/\H l=none/\H' l=some (.lst xs)/\AVs (sub (λx=>¬Ow F α σ x/\x≠l) H') xs ds
def gE (F:Fr)(α:Ev)(σ:St)(H:Hp)(v:V)(H':Hp)(c:PyData):Prop:=
 ∃l o,v=.ref l/\H l=none/\H' l=some o/\yO (sub (λx=>¬Ow F α σ x/\x≠l) H') o c
theorem yM.c {F:Fr}{α:Ev}{σ:St}{H H':Hp}{v:V}{ds:List PyData}(h:yM F α σ H v H' ds):gE F α σ H v H' (.list ds):=by
 obtain⟨l,xs,a,b,d,e⟩:=h;exact⟨l,_,a,b,d,.lst e⟩
theorem yM.av {F:Fr}{α:Ev}{σ:St}{H H':Hp}{v:V}{ds:List PyData}(m:M F α σ H)(h:yM F α σ H v H' ds):AV (Gz F α σ H') v (.list ds):=by
 obtain⟨l,xs,rfl,b,c,d⟩:=h;exact .lst (zF (m.fresh b) c) (d.same (zu λa o h e=>⟨h.1,e⟩))
section
variable (X:Cx)(α:Ev)
def EvD (e:Expr)(Q:PyData->Prop):Prop:=∀(F:Fr) (σ:St) (H:Hp) (R:VK),M F α σ H->(∀d v H',Q d->zB F H'->Kz F H H'->AV (Gz F α σ H') v d->R v H')->tu X e σ H R
def EvL (e:Expr)(Q:List PyData->Prop):Prop:=∀(F:Fr) (σ:St) (H:Hp) (R:VK),M F α σ H->(∀ds v H',Q ds->zB F H'->Kz F H H'->yM F α σ H v H' ds->R v H')->tu X e σ H R
def EvT (e:Expr)(Q:Bool->Prop):Prop:=∀(F:Fr) (σ:St) (H:Hp) (R:Bool->Hp->Prop),M F α σ H->(∀b H',Q b->zB F H'->Kz F H H'->R b H')->zB4 X e σ H R
def iB (F:Fr)(G:Hp)(v:V):A->Prop
 |.dat d=>AV G v d
 |.tape=>∃t b c,F.tp=some (t,b,c)/\v=.ref t
 |_=>False
inductive ye (F:Fr)(G:Hp):List V->List A->Prop where
 |nil:ye F G [] []
 |cons {v:V}{vs:List V}{a:A}{as:List A}:iB F G v a->ye F G vs as->ye F G (v::vs) (a::as)
def EvA (es:List Expr)(Q:List A->Prop):Prop:=∀(F:Fr) (σ:St) (H:Hp) (R:List V->Hp->Prop),M F α σ H->(∀as vs H',Q as->zB F H'->Kz F H H'->ye F (Gz F α σ H') vs as->R vs H')->zv7 X es σ H R
end
theorem iB.to {F F':Fr}{G d:Hp}(s:zv G d)(f:F'.tp=F.tp){v:V}:∀{a:A},iB F G v a->iB F' d v a
 |.dat _,h=>AV.same s h
 |.tape,⟨t,b,c,e,z⟩=>⟨t,b,c,f.trans e,z⟩
 |.ow _,h=>h
 |.deep _ _,h=>h
 |.at _,h=>h
 |.exc _ _,h=>h
 |.pin _ _ _,h=>h
 |.nst _ _ _,h=>h
theorem ye.to {F F':Fr}{G a:Hp}(s:zv G a)(c:F'.tp=F.tp){vs:List V}{as:List A}(h:ye F G vs as):ye F' a vs as:=by
 induction h with
 |nil=>exact .nil
 |cons h _ b=>exact .cons (h.to s c) b
theorem ye.length {F:Fr}{G:Hp}:∀{vs:List V}{as:List A},ye F G vs as->vs.length=as.length
 |_,_,.nil=>rfl
 |_,_,.cons _ r=>by rw[zM0,zM0,ye.length r]
def A.d :A->PyData
 |.dat d=>d
 |.ow c=>c
 |.deep d _=>d
 |.nst _ _ dss=>.list (dss.map .list)
 |_=>.none
def bX (F:Fr)(v:V)(H':Hp):A->Prop
 |.dat d=>AV (sub (λx=>¬F.O0 x) H') v d
 |.ow c=>∃l xs ds,v=.ref l/\c=.list ds/\F.H0 l=none/\¬F.O0 l/\H' l=some (.lst xs)/\AVs (sub (λx=>¬F.O0 x/\x≠l) H') xs ds
 |.deep d S=>AV (nL S (sub (λx=>¬F.O0 x) H') H') v d/\∀x,S x->¬F.O0 x/\F.H0 x=none/\∃xs,H' x=some (.lst xs)
 |.nst l ls dss=>v=.ref l/\H' l=some (.lst (ls.map .ref))/\xK (sub (λx=>¬F.O0 x/\x∉l::ls) H') H' ls dss/\(l::ls).Nodup/\∀x∈l::ls,¬F.O0 x/\F.H0 x=none
 |_=>False
def wt (F:Fr)(v:V)(H':Hp)(a:A):Prop:=zB F H'/\Kz F F.H0 H'/\bX F v H' a
def spA (φ:List A->(A->Prop)->Prop):Sp:=λvs H b _=>∃(F:Fr) (as:List A) (Q:A->Prop),F.H0=H/\zB F H/\(∀x,F.O0 x->∃o,H x=some o/\wo o)/\ye F (sub (λx=>¬F.O0 x) H) vs as/\φ as Q/\∀a v H',Q a->wt F v H' a->b v H'
theorem bX.to {F F':Fr}{v:V}{H':Hp}{a:A}(r:bX F v H' a)(b:∀x,F'.O0 x->F.O0 x)(h0:∀x,F.H0 x=none->F'.H0 x=none):bX F' v H' a:=by
 have s:zv (sub (λx=>¬F.O0 x) H') (sub (λx=>¬F'.O0 x) H'):=zu λa o h e=>⟨λz=>h (b _ z),e⟩;cases a with
 |dat d=>exact AV.same s r
 |ow c=>
  obtain⟨l,xs,ds,g,q,f,j,k,i⟩:=r;exact⟨l,xs,ds,g,q,h0 _ f,λz=>j (b _ z),k,i.same (zu λa o h e=>⟨⟨λz=>h.1 (b _ z),h.2⟩,e⟩)⟩
 |deep d S=>
  obtain⟨g,f⟩:=r;refine⟨g.same (uw s λ_ _ _ e=>e),λx z=>?_⟩;obtain⟨p,n,z3⟩:=f x z;exact⟨λw=>p (b _ w),h0 _ n,z3⟩
 |tape=>exact r
 |«at» _=>exact r
 |exc _ _=>exact r
 |pin _ _ _=>exact r
 |nst l ls dss=>
  obtain⟨g,f,j,k,i⟩:=r;exact⟨g,f,j.same (zu λa o h e=>⟨⟨λz=>h.1 (b _ z),h.2⟩,e⟩) (λ_ _ _ e=>e),k,λx m=>⟨λz=>(i x m).1 (b _ z),h0 _ (i x m).2⟩⟩
structure yo where
 nx:Ev->Prop
 rt:A->Prop
 bk:Ev->Prop:=λ_=>False
 ct:Ev->Prop:=λ_=>False
structure rz (F:Fr)(E:yo)(D:Ends):Prop where
 nx:∀α σ H,M F α σ H->E.nx α->D.nx σ H
 rt:∀a v H,wt F v H a->E.rt a->D.rt v H
 bk:∀α σ H,M F α σ H->E.bk α->D.bk σ H
 ct:∀α σ H,M F α σ H->E.ct α->D.ct σ H
def SvS (X:Cx)(α:Ev)(a:List Stmt)(E:yo):Prop:=∀(F:Fr) (σ:St) (H:Hp) (D:Ends),M F α σ H->rz F E D->cE X a D σ H
theorem rz.up {F:Fr}{G:Hp}{E:yo}{D:Ends}(e:rz F E D):rz (F.up G) E D where
 nx:=λα σ H m q=>e.nx α σ H m.down q
 bk:=λα σ H m q=>e.bk α σ H m.down q
 ct:=λα σ H m q=>e.ct α σ H m.down q
 rt:=λa v H r q=>e.rt a v H (by
  obtain⟨t,k,r⟩:=r;exact⟨t.to rfl λ_ z=>z,λx o e n=>k x o (qT e) n,r.to (λ_ z=>z) λx z=>kR z⟩) q
section
variable {X:Cx}{α:Ev}{e a b c:Expr}{es:List Expr}{pos p q:Pos}{Q:PyData->Prop}
theorem EvL.d (h:EvL X α e (λds=>Q (.list ds))):EvD X α e Q:=λF σ H R m k=>h F σ H R m λds v H' q t z f=>k _ v H' q t z (f.av m)
theorem EvD.imp {f:PyData->Prop}(h:EvD X α e f)(k:∀d,f d->Q d):EvD X α e Q:=λF σ H R m r=>h F σ H R m λd v H' q=>r d v H' (k d q)
theorem zg (i:Nat){x:Str}{d:PyData}(hi:α[i]?=some (some (.dat d)))(q:Q d)(l:X.N[i]?=some x:=by rfl)(g:Vis X.env.scope x:=by first|exact Or.inl rfl|exact Or.inr (Or.inl rfl)|exact Or.inr (Or.inr rfl))
  (hd:(x == ("__debug__":Str))=false:=by decide) (f:(x == ("__classdict__":Str))=false:=by decide):EvD X α (.Name x pos) Q:=λF σ H R m k=>by
 obtain⟨v,j,h⟩:=m.dat i d hi;exact⟨_,yX l g hd f,v,j,k d v H q m.tp Kz.refl h⟩
theorem yg {i:Int}{j:Nat}(q:Q (.int i)):EvD X α (.Constant (.int i) j pos) Q:=λF σ H R m k=>⟨_,yc,k _ _ H q m.tp Kz.refl (.int i)⟩
theorem cu {i:Bool}{j:Nat}(q:Q (.bool i)):EvD X α (.Constant (.bool i) j pos) Q:=λF σ H R m k=>⟨_,zD3,k _ _ H q m.tp Kz.refl (.bl i)⟩
theorem nN {j:Nat}(q:Q .none):EvD X α (.Constant .none j pos) Q:=λF σ H R m k=>⟨_,dA,k _ _ H q m.tp Kz.refl .non⟩
theorem vo {x:Str}{j:Nat}(q:Q (.str x)):EvD X α (.Constant (.str x) j pos) Q:=λF σ H R m k=>⟨_,zq0,k _ _ H q m.tp Kz.refl (.str x)⟩
theorem yC {x:Str}{i:Int}(hg:Gl X x)(hm:∃t,X.mg x=some (.int i t))(q:Q (.int i))(hd:(x == ("__debug__":Str))=false:=by decide):EvD X α (.Name x pos) Q:=λF σ H R m k=>by
 obtain⟨t,hm⟩:=hm;exact⟨_,aO hg hm (show RelV (.int i) (.int i t)from⟨t,rfl⟩) hd,k _ _ H q m.tp Kz.refl (.int i)⟩
theorem tW {f:TE->TE->TE}(hf:PE X e (f (tu X a) (tu X b)))(hr:∀σ H R,f (tu X a) (tu X b) σ H R↔tu X a σ H (λx H1=>tu X b σ H1 λy j=>f (tC x) (tC y) σ j R))
  (h:EvD X α a λx=>EvD X α b λy=>∀(F:Fr) (σ:St) (H:Hp) (g i:V) (R:VK),M F α σ H->AV (Gz F α σ H) g x->AV (Gz F α σ H) i y->(∀d v H',Q d->zB F H'->Kz F H H'->AV (Gz F α σ H') v d->R v H')->f (tC g) (tC i) σ H R):
  EvD X α e Q:=λF σ H R m k=>by
 refine⟨_,hf,(hr σ H R).mpr ?_⟩;refine h F σ H _ m λx g H1 u t1 n w=>?_;have m1:=m.kz n t1;refine u F σ H1 _ m1 λy i j r A l o=>?_;exact r F σ j g i R (m1.kz l A) (w.same (l.gz m1.tp)) o λd v H' s t3 z t=>k d v H' s t3 ((n.trans l).trans z) t
theorem AV.int_inv {H:Hp}{v:V}{i:Int}(h:AV H v (.int i)):v=.int i:=by cases h;rfl
theorem AV.bl_inv {H:Hp}{v:V}{i:Bool}(h:AV H v (.bool i)):v=.bl i:=by cases h;rfl
theorem AV.str_inv {H:Hp}{v:V}{i:Str}(h:AV H v (.str i)):v=.str i:=by cases h;rfl
theorem AV.tup_inv {H:Hp}{v:V}{ds:List PyData}(h:AV H v (.tuple ds)):∃a xs,v=.ref a/\H a=some (.tup xs)/\AVs H xs ds:=by cases h;exact⟨_,_,rfl,by assumption,by assumption⟩
theorem AV.lst_inv {H:Hp}{v:V}{ds:List PyData}(h:AV H v (.list ds)):∃a xs,v=.ref a/\H a=some (.lst xs)/\AVs H xs ds:=by cases h;exact⟨_,_,rfl,by assumption,by assumption⟩
theorem AV.non_inv {H:Hp}{v:V}(h:AV H v .none):v=.non:=by cases h;rfl
theorem AV.isnon {H:Hp}{v:V}{d:PyData}(h:AV H v d):decide (v=.non)=(match d with|.none=>true|_=>false):=by cases h<;>simp
theorem qD {op:Operator}{C:Int->Int->Prop}{g:Int->Int->V}{gd:Int->Int->PyData}(n:OpR X (binaryOp op) (rI C g))(hg:∀H i j,AV H (g i j) (gd i j))
  (h:EvD X α a λx=>EvD X α b λy=>∃i j,x=.int i/\y=.int j/\C i j/\Q (gd i j)):EvD X α (.BinOp a op b pos) Q:=by
 refine tW (f:=tOp (rI C g)) (xf n zi zi) (λ_ _ _=>Iff.rfl) (h.imp λx h=>h.imp λy d=>?_);obtain⟨i,j,e1,s,l,hq⟩:=d;subst e1 s;intro F σ H t u R m r o k;cases r.int_inv;cases o.int_inv;exact⟨i,j,rfl,rfl,l,k _ _ H hq m.tp Kz.refl (hg _ i j)⟩
theorem jd {op:Operator}{g:Int->Int->V}{gd:Int->Int->PyData}(l:OpR X (binaryOp op) (rI0 g))(hg:∀H i j,AV H (g i j) (gd i j))
  (h:EvD X α a λx=>EvD X α b λy=>∃i j,x=.int i/\y=.int j/\Q (gd i j)):EvD X α (.BinOp a op b pos) Q:=by
 refine tW (f:=tOp (rI0 g)) (xf l zi zi) (λ_ _ _=>Iff.rfl) (h.imp λx h=>h.imp λy d=>?_);obtain⟨i,j,e1,r,hq⟩:=d;subst e1 r;intro F σ H s t R m o n k;cases o.int_inv;cases n.int_inv;exact⟨i,j,rfl,rfl,k _ _ H hq m.tp Kz.refl (hg _ i j)⟩
theorem pf (h:EvD X α a λx=>EvD X α b λy=>∃i j,x=.int i/\y=.int j/\Q (.int (i+j))):EvD X α (.BinOp a .Add b pos) Q:=jd (gd:=λi j=>.int (i+j)) qu (λ_ _ _=>.int _) h
theorem nF (h:EvD X α a λx=>EvD X α b λy=>∃i j,x=.int i/\y=.int j/\Q (.int (i-j))):EvD X α (.BinOp a .Sub b pos) Q:=jd (gd:=λi j=>.int (i-j)) zl2 (λ_ _ _=>.int _) h
theorem zr6 (h:EvD X α a λx=>EvD X α b λy=>∃i j,x=.int i/\y=.int j/\zb5 i j/\Q (.int (i*j))):EvD X α (.BinOp a .Mult b pos) Q:=qD (gd:=λi j=>.int (i*j)) qG (λ_ _ _=>.int _) h
theorem zl6 (h:EvD X α a λx=>EvD X α b λy=>∃i j,x=.int i/\y=.int j/\zn8 i j/\Q (.int (i ^ j.toNat))):EvD X α (.BinOp a .Pow b pos) Q:=qD (gd:=λi j=>.int (i ^ j.toNat)) zl9 (λ_ _ _=>.int _) h
theorem gu (h:EvD X α a λx=>EvD X α b λy=>∃i j,x=.int i/\y=.int j/\0<j/\Q (.int (i % j))):EvD X α (.BinOp a .Mod b pos) Q:=qD (gd:=λi j=>.int (i % j)) sC (λ_ _ _=>.int _) h
theorem zc1 (h:EvD X α a λx=>EvD X α b λy=>∃i j,x=.int i/\y=.int j/\ze6 i j/\Q (.int (i / j))):EvD X α (.BinOp a .FloorDiv b pos) Q:=qD (gd:=λi j=>.int (i / j)) sX (λ_ _ _=>.int _) h
theorem uI {i j r:Int}{p1 p2:Pos}{n1 n2:Nat}(d:zn8 i j)(hr:i ^ j.toNat=r)(q:Q (.int r)):EvD X α (.BinOp (.Constant (.int i) n1 p1) .Pow (.Constant (.int j) n2 p2) pos) Q:=
 zl6 (yg (yg ⟨i,j,rfl,rfl,d,hr▸q⟩))
theorem zu7 (h:EvD X α a λx=>∃i,x=.int i/\Q (.int (-i))):EvD X α (.UnaryOp .USub a pos) Q:=λF σ H R m k=>by
 refine⟨_,zg4 dw zi,?_⟩;refine h F σ H _ m λx j H1 d t1 f g=>?_;obtain⟨i,rfl,q⟩:=d;cases g.int_inv;exact⟨i,rfl,k _ _ H1 q t1 f (.int _)⟩
theorem kY {op:CmpOp}{g:Int->Int->Bool}(l:OpR X (compareOp op) (rI0 λi j=>.bl (g i j)))(hm:behindInMarks op b=false)
  (h:EvD X α a λx=>EvD X α b λy=>∃i j,x=.int i/\y=.int j/\Q (.bool (g i j))):EvD X α (.Compare a [op] [b] pos) Q:=by
 refine tW (f:=tOp (rI0 λi j=>.bl (g i j))) (qM l zi zi hm) (λ_ _ _=>Iff.rfl) (h.imp λx h=>h.imp λy d=>?_);obtain⟨i,j,e1,o,hq⟩:=d;subst e1 o;intro F σ H s t R m r n k;cases r.int_inv;cases n.int_inv;exact⟨i,j,rfl,rfl,k _ _ H hq m.tp Kz.refl (.bl _)⟩
theorem zg3 (h:EvD X α a λx=>EvD X α b λy=>∃i j,x=.int i/\y=.int j/\Q (.bool (decide (i<j)))):EvD X α (.Compare a [.Lt] [b] pos) Q:=kY zd7 (yD _) h
theorem zx8 (h:EvD X α a λx=>EvD X α b λy=>∃i j,x=.int i/\y=.int j/\Q (.bool (decide (i<=j)))):EvD X α (.Compare a [.LtE] [b] pos) Q:=kY om (yD _) h
def xw :PyData->Bool
 |.none=>true
 |_=>false
theorem AV.non_iff {H:Hp}{v:V}{d:PyData}(h:AV H v d):decide (v=.non)=xw d:=by cases h<;>simp[xw]
theorem zr5 {j:Nat}(h:EvD X α a λx=>Q (.bool (xw x))):EvD X α (.Compare a [.Is] [.Constant .none j p] pos) Q:=λF σ H R m k=>by
 refine⟨_,qM gH zi dA (yD _),?_⟩;refine h F σ H _ m λx i H1 d t1 f g=>⟨rfl,?_⟩;rw[g.non_iff];exact k _ _ H1 d t1 f (.bl _)
theorem cF {op d:CmpOp}{g g':Int->Int->Bool}(u:OpR X (compareOp op) (rI0 λi j=>.bl (g i j)))(f:OpR X (compareOp d) (rI0 λi j=>.bl (g' i j)))(hm:lastMarks [op,d] [b,c]=false)
  (h:EvD X α a λx=>EvD X α b λy=>∃i j,x=.int i/\y=.int j/\(if g i j=true then EvD X α c λz=>∃k,z=.int k/\Q (.bool (g' j k))else Q (.bool false))):EvD X α (.Compare a [op,d] [b,c] pos) Q:=λF σ H R m k=>by
 refine⟨_,cp u f zi zi zi hm,?_⟩;refine h F σ H _ m λx J H1 A t1 l B=>?_;have m1:=m.kz l t1;refine A F σ H1 _ m1 λy L r E s n v=>?_;obtain⟨i,j,e1,C,hq⟩:=E;subst e1 C;cases B.int_inv;cases v.int_inv;have m2:=m1.kz n s;refine⟨i,j,rfl,rfl,_,rfl,?_⟩;cases hg:g i j with
 |true=>
  rw[hg]at hq;refine rq ?_;refine(by simpa using hq:EvD X α c _) F σ r _ m2 λz K D t t3 I w=>?_;obtain⟨G,rfl,o⟩:=t;cases w.int_inv;exact⟨j,G,rfl,rfl,k _ _ D o t3 ((l.trans n).trans I) (.bl _)⟩
 |false=>
  rw[hg]at hq;exact rA (k _ _ r (by simpa using hq) s (l.trans n) (.bl _))
theorem gI {Q:Bool->Prop}(h:EvD X α e λx=>∃k,x=.bool k/\Q k)(he:∀whole,isTrue e X.env whole=(do let v <-whole;standAt e.pos;holding [v] (truthy v)):=by intro _;rfl):EvT X α e Q:=λF σ H R m k=>by
 refine⟨_,zn3 zi he,?_⟩;refine h F σ H _ m λx i H1 d t1 f g=>?_;obtain⟨b,rfl,q⟩:=d;cases g.bl_inv;exact⟨b,rfl,k b H1 q t1 f⟩
def Cmp (r:R2)(x y:PyData)(k:Bool):Prop:=∀(p:Addr->Prop) (H:Hp) (d f:V) (R:VK),AV (sub p H) d x->AV (sub p H) f y->R (.bl k) H->r d f H R
theorem we {op:CmpOp}{r:R2}{Q:Bool->Prop}(j:OpR X (compareOp op) r)(hm:behindInMarks op b=false)(h:EvD X α a λx=>EvD X α b λy=>∃k,Cmp r x y k/\Q k):EvT X α (.Compare a [op] [b] pos) Q:=λF σ H R m k=>by
 refine⟨_,lQ j zi zi hm,?_⟩;refine h F σ H _ m λx o H1 s t1 f t=>?_;have m1:=m.kz f t1;refine s F σ H1 _ m1 λy u d n v g l=>?_;obtain⟨b,i,q⟩:=n;exact i _ d o u _ (t.same (g.gz m1.tp)) l ⟨b,rfl,k b d q v (f.trans g)⟩
theorem zb4 {g:Int->Int->Bool}{i j:Int}:Cmp (rI0 λi j=>.bl (g i j)) (.int i) (.int j) (g i j):=λp H k l R f d h=>by
 cases f.int_inv;cases d.int_inv;exact⟨i,j,rfl,rfl,h⟩
theorem qK {op:CmpOp}{g:Int->Int->Bool}{Q:Bool->Prop}(k:OpR X (compareOp op) (rI0 λi j=>.bl (g i j)))(hm:behindInMarks op b=false)
  (h:EvD X α a λx=>EvD X α b λy=>∃i j,x=.int i/\y=.int j/\Q (g i j)):EvT X α (.Compare a [op] [b] pos) Q:=
 we k hm (h.imp λx h=>h.imp λy d=>by obtain⟨i,j,e1,f,q⟩:=d;exact⟨_,by subst e1 f;exact zb4,q⟩)
theorem zw6 {Q:Bool->Prop}(h:EvD X α a λx=>EvD X α b λy=>∃i j,x=.int i/\y=.int j/\Q (decide (i<j))):EvT X α (.Compare a [.Lt] [b] pos) Q:=qK zd7 (yD _) h
theorem zc3 {Q:Bool->Prop}(h:EvD X α a λx=>EvD X α b λy=>∃i j,x=.int i/\y=.int j/\Q (decide (j<i))):EvT X α (.Compare a [.Gt] [b] pos) Q:=qK ze5 (yD _) h
theorem zj0 {Q:Bool->Prop}(h:EvD X α a λx=>EvD X α b λy=>∃i j,x=.int i/\y=.int j/\Q (decide (j<=i))):EvT X α (.Compare a [.GtE] [b] pos) Q:=qK zw8 (yD _) h
theorem ve {j:Nat}{Q:Bool->Prop}(h:EvD X α a λx=>Q (xw x)):EvT X α (.Compare a [.Is] [.Constant .none j p] pos) Q:=
 we gH (yD _) (h.imp λx h=>nN ⟨_,λp H g i R f d z=>⟨d.non_inv,by rw[f.non_iff];exact z⟩,h⟩)
theorem lM {j:Nat}{Q:Bool->Prop}(h:EvD X α a λx=>Q (!xw x)):EvT X α (.Compare a [.IsNot] [.Constant .none j p] pos) Q:=
 we bq (yD _) (h.imp λx h=>nN ⟨_,λp H g i R f d z=>⟨d.non_inv,by rw[f.non_iff];exact z⟩,h⟩)
def zH9 :PyData->Option Bool
 |.none=>some false
 |.bool b=>some b
 |.int i=>some (i != 0)
 |.list ds=>some (!ds.isEmpty)
 |.tuple ds=>some (!ds.isEmpty)
 |_=>none
theorem AVs.isEmpty {H:Hp}{xs:List V}{ds:List PyData}(h:AVs H xs ds):xs.isEmpty=ds.isEmpty:=by cases h<;>rfl
theorem eS {Q:Bool->Prop}(h:EvD X α e λx=>∃k,zH9 x=some k/\Q k)(he:∀whole,isTrue e X.env whole=(do let v <-whole;standAt e.pos;holding [v] (truthy v)):=by intro _;rfl):EvT X α e Q:=λF σ H R m k=>by
 refine⟨_,ck zi he,?_⟩;refine h F σ H _ m λx n H1 g t1 j l=>?_;obtain⟨b,hb,q⟩:=g;refine⟨b,?_,k b H1 q t1 j⟩;cases l with
 |non=>cases hb;rfl
 |bl z=>cases hb;rfl
 |int i=>cases hb;rfl
 |str s=>cases hb
 |lst f d=>cases hb;exact .inl ⟨_,SqL.of (zj f).2,by rw[d.isEmpty]⟩
 |tup f d=>cases hb;exact .inr (.inl ⟨_,SqT.of (zj f).2,by rw[d.isEmpty]⟩)
 |ins _ _=>cases hb
 |dk _ _=>cases hb
 |dt _ _=>cases hb
 |xc _ _ _=>cases hb
 |xn _=>cases hb
theorem cX {Q:Bool->Prop}(h:EvT X α a λk=>Q (!k)):EvT X α (.UnaryOp .Not a pos) Q:=λF σ H R m k=>by
 refine⟨_,zm3 xv,?_⟩;exact h F σ H _ m λb H1 d t1 f=>k _ H1 d t1 f
def EvW (X:Cx)(α:Ev)(e:Expr)(Q:Bool->Prop):Prop:=∀(F:Fr) (σ:St) (H:Hp) (R:Bool->Hp->Prop),M F α σ H->(∀b H',Q b->zB F H'->Kz F H H'->R b H')->∃t,PW X e t/\t σ H R
def zE3 (X:Cx)(e:Expr):TT:=λσ H Q=>∃t,PW X e t/\t σ H Q
theorem lY :PW X e (zE3 X e):=λw pins s σ H Q I d=>by obtain⟨t,p,q⟩:=d;exact p w pins s σ H Q I q
theorem EvW.t {Q:Bool->Prop}(h:EvW X α e Q):EvT X α e Q:=λF σ H R m k=>by
 obtain⟨t,p,q⟩:=h F σ H R m k;exact⟨t,p.pt,q⟩
variable {rest:List Expr}
theorem je {Q:Bool->Prop}(h:EvT X α a Q):EvW X α (.BoolOp .And [a] pos) Q:=λF σ H R m k=>⟨_,zb2 xv,h F σ H R m k⟩
theorem zm4 {Q:Bool->Prop}(h:EvT X α a Q):EvW X α (.BoolOp .Or [a] pos) Q:=λF σ H R m k=>⟨_,zs9 xv,h F σ H R m k⟩
theorem lq {Q:Bool->Prop}(h:EvT X α a λk=>if k=true then EvW X α (.BoolOp .And (b::rest) pos) Q else Q false):EvW X α (.BoolOp .And (a::b::rest) pos) Q:=λF σ H R m k=>by
 refine⟨_,zr2 xv lY,?_⟩;refine h F σ H _ m λc H1 f t1 d=>?_;cases c with
 |true=>exact rq ((by simpa using f:EvW X α _ Q) F σ H1 R (m.kz d t1) λb g j l i=>k b g j l (d.trans i))
 |false=>exact rA (k _ H1 (by simpa using f) t1 d)
theorem zv9 {Q:Bool->Prop}(h:EvT X α a λk=>if k=true then Q true else EvW X α (.BoolOp .Or (b::rest) pos) Q):EvW X α (.BoolOp .Or (a::b::rest) pos) Q:=λF σ H R m k=>by
 refine⟨_,zu9 xv lY,?_⟩;refine h F σ H _ m λc H1 f t1 d=>?_;cases c with
 |false=>exact rA ((by simpa using f:EvW X α _ Q) F σ H1 R (m.kz d t1) λb g j l i=>k b g j l (d.trans i))
 |true=>exact rq (k _ H1 (by simpa using f) t1 d)
theorem zo6 {op}(h:EvD X α a Q):EvD X α (.BoolOp op [a] pos) Q:=λF σ H R m k=>⟨_,zo5 zi,h F σ H R m k⟩
theorem zu8 (h:EvD X α a λx=>∃k,x=.bool k/\if k=true then EvD X α (.BoolOp .And (b::rest) pos) Q else Q (.bool false)):EvD X α (.BoolOp .And (a::b::rest) pos) Q:=λF σ H R m k=>by
 refine⟨_,zm5 zi zi,?_⟩;refine h F σ H _ m λx s H1 f t1 g n=>?_;obtain⟨c,rfl,f⟩:=f;cases n.bl_inv;refine⟨c,rfl,?_⟩;cases c with
 |true=>exact rq ((by simpa using f:EvD X α _ Q) F σ H1 R (m.kz g t1) λd v l j r o i=>k d v l j r (g.trans o) i)
 |false=>exact rA (k _ _ H1 (by simpa using f) t1 g (.bl _))
theorem zC3 (h:EvD X α a λx=>∃k,x=.bool k/\if k=true then Q (.bool true)else EvD X α (.BoolOp .Or (b::rest) pos) Q):EvD X α (.BoolOp .Or (a::b::rest) pos) Q:=λF σ H R m k=>by
 refine⟨_,zv4 zi zi,?_⟩;refine h F σ H _ m λx s H1 f t1 g n=>?_;obtain⟨c,rfl,f⟩:=f;cases n.bl_inv;refine⟨c,rfl,?_⟩;cases c with
 |false=>exact rA ((by simpa using f:EvD X α _ Q) F σ H1 R (m.kz g t1) λd v l j r o i=>k d v l j r (g.trans o) i)
 |true=>exact rq (k _ _ H1 (by simpa using f) t1 g (.bl _))
theorem zu2 (h:EvD X α a λx=>∃k,x=.bool k/\Q (.bool (!k))):EvD X α (.UnaryOp .Not a pos) Q:=λF σ H R m k=>by
 refine⟨_,zt0 zi,?_⟩;refine h F σ H _ m λx i H1 d t1 f g=>?_;obtain⟨c,rfl,q⟩:=d;cases g.bl_inv;exact⟨c,rfl,k _ _ H1 q t1 f (.bl _)⟩
theorem ml (h:EvT X α c λk=>if k=true then EvD X α a Q else EvD X α b Q):EvD X α (.IfExp c a b pos) Q:=λF σ H R m k=>by
 refine⟨_,dI xv zi zi,?_⟩;refine h F σ H _ m λx H1 o t1 f=>?_;cases x with
 |true=>exact rq ((by simpa using o:EvD X α _ Q) F σ H1 R (m.kz f t1) λd v i l n j g=>k d v i l n (f.trans j) g)
 |false=>exact rA ((by simpa using o:EvD X α _ Q) F σ H1 R (m.kz f t1) λd v i l n j g=>k d v i l n (f.trans j) g)
theorem xB (s:qx b)(h:EvD X α a λx=>EvD X α b λy=>∃ds i d,x=.tuple ds/\y=.int i/\atI ds i=some d/\Q d):EvD X α (.Subscript a b pos) Q:=by
 refine tW (f:=tOp (zn1 X.K)) (vc cQ zi zi s) (λ_ _ _=>Iff.rfl) (h.imp λx h=>h.imp λy g=>?_);obtain⟨ds,i,d,e1,u,j,hq⟩:=g;subst e1 u;intro F σ H w z R m t n k;obtain⟨a,xs,rfl,o,r⟩:=t.tup_inv;cases n.int_inv;obtain⟨v,l,av⟩:=r.atI j;exact⟨a,xs,i,v,rfl,rfl,SqT.of (zj o).2,l,k d v H hq m.tp Kz.refl av⟩
def EvO (X:Cx)(α:Ev)(e:Option Expr)(Q:Option Int->Prop):Prop:=∀(F:Fr) (σ:St) (H:Hp) (R:Option Int->Hp->Prop),M F α σ H->(∀i H',Q i->zB F H'->Kz F H H'->R i H')->∃t,PO X e t/\t σ H R
def zF8 (X:Cx)(e:Option Expr):TO:=λσ H Q=>∃t,PO X e t/\t σ H Q
theorem kb {e:Option Expr}:PO X e (zF8 X e):=λpins s σ H Q I d=>by obtain⟨t,p,q⟩:=d;exact p pins s σ H Q I q
theorem za8 {Q:Option Int->Prop}(q:Q none):EvO X α none Q:=λF σ H R m k=>⟨_,kA,k _ H q m.tp Kz.refl⟩
theorem ao {Q:Option Int->Prop}(h:EvD X α a λx=>∃i,x=.int i/\Q (some i)):EvO X α (some a) Q:=λF σ H R m k=>by
 refine⟨_,ki zi,?_⟩;refine h F σ H _ m λx j H1 d t1 f g=>?_;obtain⟨i,rfl,q⟩:=d;cases g.int_inv;exact⟨i,rfl,k _ H1 q t1 f⟩
theorem M.lay {F:Fr}{σ:St}{H:Hp}{l:Addr}{xs:List V}{ds:List PyData}(m:M F α σ H)(d:H l=none)(h:AVs (Gz F α σ H) xs ds):zB F (upd H l (.lst xs))/\Kz F H (upd H l (.lst xs))/\yM F α σ H (.ref l) (upd H l (.lst xs)) ds:=by
 refine⟨m.tp.same (zU d),Kz.of_same (zU d),l,xs,rfl,d,zk,h.same (zu λa o ha e=>?_)⟩;have:=zl e d;exact⟨⟨ha,this⟩,by rw[zh this];exact e⟩
theorem zi4 {lo hi:Option Expr}{Q:List PyData->Prop}(h:EvD X α a λx=>EvO X α lo λl=>EvO X α hi λu=>∃ds,x=.list ds/\Q (cutD ds l u)):EvL X α (.Subscript a (.Slice lo hi none p) pos) Q:=λF σ H R m k=>by
 refine⟨_,ou lC zi kb kb,?_⟩;refine h F σ H _ m λx I H1 w t1 n y=>?_;have m1:=m.kz n t1;refine w F σ H1 _ m1 λl D B G g=>?_;have m2:=m1.kz g G;refine B F σ D _ m2 λu J s t3 j=>?_;have m3:=m2.kz j t3;obtain⟨ds,rfl,q⟩:=s;obtain⟨a,xs,rfl,C,v⟩:=(y.same ((g.gz m1.tp).trans (j.gz m2.tp))).lst_inv;refine⟨a,xs,rfl,SqL.of (zj C).2,λp E=>?_⟩;obtain⟨g1,g2,g3⟩:=m3.lay E (v.cut l u);have r:=(n.trans g).trans j;obtain⟨d,i,e1,f,t,A⟩:=g3;refine k _ _ _ q g1 (r.trans g2) ⟨d,i,e1,?_,t,A⟩;cases z:H d with
 |none=>rfl
 |some o=>rw[r d o z (m.tp.nt (ow0 (m3.fresh f)))]at f;cases f
theorem yM.back {F:Fr}{σ:St}{H H1 H':Hp}{v:V}{ds:List PyData}(m:M F α σ H)(k:Kz F H H1)(t1:zB F H1)(h:yM F α σ H1 v H' ds):yM F α σ H v H' ds:=by
 obtain⟨f,d,e1,g,i,j⟩:=h;refine⟨f,d,e1,?_,i,j⟩;cases z:H f with
 |none=>rfl
 |some o=>rw[k f o z (m.tp.nt (ow0 ((m.kz k t1).fresh g)))]at g;cases g
theorem zx {Q:List A->Prop}(q:Q []):EvA X α [] Q:=λF σ H R m k=>⟨_,yp,k _ _ H q m.tp Kz.refl .nil⟩
theorem zm {Q:List A->Prop}(h:EvD X α e λd=>EvA X α es λas=>Q (.dat d::as))(n:starEach (e::es) X.env=(false,eval e X.env)::starEach es X.env:=by rfl):EvA X α (e::es) Q:=λF σ H R m k=>by
 refine⟨_,zE zi yN n,?_⟩;refine h F σ H _ m λd v H1 o t1 f r=>?_;have m1:=m.kz f t1;exact o F σ H1 _ m1 λas vs l j s g i=>k _ _ l j s (f.trans g) (.cons (r.same (g.gz m1.tp)) i)
theorem bz {Q:List A->Prop}(i:Nat){x:Str}(hi:α[i]?=some (some .tape))(h:EvA X α es λas=>Q (.tape::as))(o:X.N[i]?=some x:=by rfl)(f:Vis X.env.scope x:=by first|exact Or.inl rfl|exact Or.inr (Or.inl rfl)|exact Or.inr (Or.inr rfl))
  (hd:(x == ("__debug__":Str))=false:=by decide) (d:(x == ("__classdict__":Str))=false:=by decide) (r:starEach (.Name x pos::es) X.env=(false,eval (.Name x pos) X.env)::starEach es X.env:=by rfl):EvA X α (.Name x pos::es) Q:=λF σ H R m k=>by
 obtain⟨t,b,c,g,l⟩:=m.tvar i hi;refine⟨_,zE (yX o f hd d) yN r,.ref t,l,?_⟩;exact h F σ H _ m λas vs n u v s j=>k _ _ n u v s (.cons ⟨t,b,c,g,rfl⟩ j)
def datas :List A->Option (List PyData)
 |[]=>some []
 |.dat d::r=>(datas r).map (d::·)
 |_::_=>none
theorem ye.datas {F:Fr}{G:Hp}{vs:List V}{as:List A}{ds:List PyData}(h:ye F G vs as)(e:L2.datas as=some ds):AVs G vs ds:=by
 induction h generalizing ds with
 |nil=>cases e;exact .nil
 |@cons _ _ a as h _ ih=>
  cases a with
  |dat d=>
   obtain⟨es,e1,rfl⟩:=zL5.mp e;exact .cons h (ih e1)
  |tape=>cases e
  |_=>exact h.elim
theorem nG {n:Nat}(h:EvA X α es λas=>∃ds,datas as=some ds/\ds.length<=1000/\Q (.tuple ds)):EvD X α (.Tuple es n pos) Q:=λF σ H R m k=>by
 refine⟨_,fh yN,?_⟩;refine h F σ H _ m λas vs H1 i t1 f j=>?_;obtain⟨ds,e,g,q⟩:=i;have r:=j.datas e;have m1:=m.kz f t1;refine⟨by rw[r.length];exact zN6 (yw g),λp d=>?_⟩;refine k _ _ _ q (t1.same (zU d)) (f.trans (Kz.of_same (zU d))) (.tup (xs:=vs) (zF (m1.fresh d) zk) (r.same (zu λa o ha e=>⟨ha,by rw[zh (zl e d)];exact e⟩)))
theorem yL {Q:List PyData->Prop}(h:EvA X α es λas=>∃ds,datas as=some ds/\ds.length<=1000/\Q ds):EvL X α (.List es pos) Q:=λF σ H R m k=>by
 refine⟨_,eX yN,?_⟩;refine h F σ H _ m λas vs H1 i t1 d j=>?_;obtain⟨ds,e,f,q⟩:=i;have r:=j.datas e;have m1:=m.kz d t1;refine⟨by rw[r.length];exact zN6 (yw f),λp g=>?_⟩;obtain⟨g1,g2,g3⟩:=m1.lay g r;exact k _ _ _ q g1 (d.trans g2) (g3.back m d t1)
theorem vp {Q:List PyData->Prop}(h:EvD X α a λx=>EvD X α b λy=>∃ds es,x=.list ds/\y=.list es/\ds.length+es.length<=1000/\Q (ds++es)):EvL X α (.BinOp a .Add b pos) Q:=λF σ H R m k=>by
 refine⟨_,xf hJ zi zi,?_⟩;refine h F σ H _ m λx w H1 n t1 f o=>?_;have m1:=m.kz f t1;refine n F σ H1 _ m1 λy z A r j d l=>?_;have m2:=m1.kz d j;obtain⟨ds,es,rfl,rfl,s,q⟩:=r;obtain⟨a,xs,rfl,t,g⟩:=(o.same (d.gz m1.tp)).lst_inv;obtain⟨b,ys,rfl,u,i⟩:=l.lst_inv;refine⟨a,b,xs,ys,rfl,rfl,(zj t).2,(zj u).2,by rw[g.length,i.length];exact zN6 (yw s),λp v=>?_⟩;obtain⟨g1,g2,g3⟩:=m2.lay v (g.append i);exact k _ _ _ q g1 ((f.trans d).trans g2) (g3.back m (f.trans d) j)
theorem vT {id:String}{x:Str}{r:List V->Hp->VK->Prop}(i:xx X (.builtin id) r)(hg:Gl X x)(hm:X.mg x=none)(j:bootBuiltins x=some (.builtin id))
  (h:EvA X α (e::es) λas=>∀(F:Fr) (σ:St) (H:Hp) (vs:List V) (R:VK),M F α σ H->ye F (Gz F α σ H) vs as->(∀d v H',Q d->zB F H'->Kz F H H'->AV (Gz F α σ H') v d->R v H')->r vs H R)
  (hn:x≠"__name__":=by decide) (f:(x == ("__debug__":Str))=false:=by decide) (he:starEach (e::es) X.env=(false,eval e X.env)::starEach es X.env:=by rfl) (hpl:(backTo pos (starEach es X.env)).any (·.1)=false:=by rfl):
  EvD X α (.Call (.Name x p) (e::es) [] pos) Q:=λF σ H R m k=>by
 refine⟨_,vW i hg hm j yN hn f he hpl,?_⟩;refine h F σ H _ m λas vs H1 o t1 g s=>?_;exact o F σ H1 vs R (m.kz g t1) s λd v H' n u t l=>k d v H' n u (g.trans t) l
end
section
variable {X:Cx}{α:Ev}{e a b c:Expr}{es:List Expr}{pos p q:Pos}{Q:PyData->Prop}
theorem ye.one {F:Fr}{G:Hp}{vs:List V}{d:PyData}(h:ye F G vs [.dat d]):∃v,vs=[v]/\AV G v d:=by
 cases h with|cons h r=>cases r;exact⟨_,rfl,h⟩
theorem ye.two {F:Fr}{G:Hp}{vs:List V}{d e:PyData}(h:ye F G vs [.dat d,.dat e]):∃v u,vs=[v,u]/\AV G v d/\AV G u e:=by
 cases h with|cons h r=>obtain⟨u,rfl,f⟩:=r.one;exact⟨_,u,rfl,h,f⟩
def zF0 :PyData->Option Int
 |.list ds=>some ds.length
 |.tuple ds=>some ds.length
 |_=>none
theorem qL (hg:Gl X "len")(hm:X.mg "len"=none)(h:EvD X α e λx=>∃n,zF0 x=some n/\Q (.int n))(he:starEach [e] X.env=(false,eval e X.env)::starEach [] X.env:=by rfl):
  EvD X α (.Call (.Name "len" p) [e] [] pos) Q:=by
 refine vT qP hg hm PySem.boot_len (zm (h.imp λx d=>?_) he) (he:=he);obtain⟨n,e1,q⟩:=d;refine zx ?_;intro F σ H vs R m i k;obtain⟨v,rfl,av⟩:=i.one;cases av with
 |lst f g=>cases e1;rw[<-g.length]at q;exact⟨_,_,rfl,.inl (SqL.of (zj f).2),k _ _ H q m.tp Kz.refl (.int _)⟩
 |tup f g=>cases e1;rw[<-g.length]at q;exact⟨_,_,rfl,.inr (SqT.of (zj f).2),k _ _ H q m.tp Kz.refl (.int _)⟩
 |_=>cases e1
theorem zp2 (g:X.calm=true)(hg:Gl X "max")(hm:X.mg "max"=none)(h:EvD X α a λx=>EvD X α b λy=>∃i j,x=.int i/\y=.int j/\Q (.int (if j > i then j else i)))
  (he:starEach [a,b] X.env=(false,eval a X.env)::starEach [b] X.env:=by rfl) (d:starEach [b] X.env=(false,eval b X.env)::starEach [] X.env:=by rfl) (hpl:(backTo pos (starEach [b] X.env)).any (·.1)=false:=by rfl):
  EvD X α (.Call (.Name "max" p) [a,b] [] pos) Q:=by
 refine vT (iZ g) hg hm boot_max (zm (h.imp λx h=>zm (h.imp λy f=>?_) d) he) (he:=he) (hpl:=hpl);obtain⟨i,j,e1,o,q⟩:=f;refine zx ?_;intro F σ H vs R m l k;subst e1 o;obtain⟨v,u,rfl,av,n⟩:=l.two;cases av.int_inv;cases n.int_inv;exact⟨i,j,rfl,k _ _ H q m.tp Kz.refl (.int _)⟩
theorem zt4 (g:X.calm=true)(hg:Gl X "min")(hm:X.mg "min"=none)(h:EvD X α a λx=>EvD X α b λy=>∃i j,x=.int i/\y=.int j/\Q (.int (if j<i then j else i)))
  (he:starEach [a,b] X.env=(false,eval a X.env)::starEach [b] X.env:=by rfl) (f:starEach [b] X.env=(false,eval b X.env)::starEach [] X.env:=by rfl) (hpl:(backTo pos (starEach [b] X.env)).any (·.1)=false:=by rfl):
  EvD X α (.Call (.Name "min" p) [a,b] [] pos) Q:=by
 refine vT (jq g) hg hm boot_min (zm (h.imp λx h=>zm (h.imp λy d=>?_) f) he) (he:=he) (hpl:=hpl);obtain⟨i,j,e1,o,q⟩:=d;refine zx ?_;intro F σ H vs R m l k;subst e1 o;obtain⟨v,u,rfl,av,n⟩:=l.two;cases av.int_inv;cases n.int_inv;exact⟨i,j,rfl,k _ _ H q m.tp Kz.refl (.int _)⟩
theorem tV {T:String}{x:Str}{p1:Pos}(hg:Gl X "isinstance")(hm:X.mg "isinstance"=none)(d:Gl X x)(g:X.mg x=none)(j:bootBuiltins x=some (.type T))
  (h:EvD X α a λx=>∃k,x.hasDict=false/\aF T x=some k/\Q (.bool k)) (i:x≠"__name__":=by decide) (hdx:(x == ("__debug__":Str))=false:=by decide)
  (he:starEach [a,.Name x p1] X.env=(false,eval a X.env)::starEach [.Name x p1] X.env:=by rfl) (f:starEach [.Name x p1] X.env=(false,eval (.Name x p1) X.env)::starEach [] X.env:=by rfl) (hpl:(backTo pos (starEach [.Name x p1] X.env)).any (·.1)=false:=by rfl):
  EvD X α (.Call (.Name "isinstance" p) [a,.Name x p1] [] pos) Q:=λF σ H R m k=>by
 refine⟨_,vW jB hg hm boot_isinstance (zE zi (zE (za4 d g j (show RelV (.ty T) (.type T)from rfl) i hdx) yp f) he) (he:=he) (hpl:=hpl),?_⟩;refine h F σ H _ m λx l H1 n t1 o r=>?_;obtain⟨b,hd,e,q⟩:=n;exact⟨l,T,x,b,rfl,(r.dv hd).same xo,e,k _ _ H1 q t1 o (.bl b)⟩
def wu :PyData->Option (List PyData)
 |.list ds=>some ds
 |.tuple ds=>some ds
 |_=>none
section
variable {k:Nat}{f:Addr}{fd:FuncData}{ps:List Str}{φ:List A->(A->Prop)->Prop}{x:Str}
theorem xU {F:Fr}{σ:St}{H:Hp}{vs:List V}{as:List A}{d:A->Prop}{R:VK}(m:M F α σ H)(i:ye F (Gz F α σ H) vs as)(g:φ as d)
  (h:∀a v H',d a->wt ⟨H,Ow F α σ,F.tp⟩ v H' a->R v H') {E:XK}:spA φ (vs++[]) H R E:=by
 refine⟨⟨H,Ow F α σ,F.tp⟩,as,d,rfl,?_,?_,?_,g,h⟩
 ·exact m.tp.to rfl λ_ z=>.inl z
 ·exact λy z=>m.owEx z
 ·rw[zO1];exact ye.to (F:=F) (F':=⟨H,Ow F α σ,F.tp⟩) (λ_ _ e=>e) rfl i
theorem wt.back {F:Fr}{σ:St}{H H':Hp}{v:V}{a:A}(m:M F α σ H)(h:wt ⟨H,Ow F α σ,F.tp⟩ v H' a):zB F H'/\Kz F H H'/\AV (Gz F α σ H') v a.d:=by
 obtain⟨t,kz,r⟩:=h;refine⟨m.tp.re t rfl,kz,?_⟩;cases a with
 |dat d=>exact r
 |ow c=>
  obtain⟨l,xs,ds,rfl,rfl,s,g,j,u⟩:=r;exact .lst (zF g j) (u.same (zu λa o h e=>⟨h.1,e⟩))
 |deep d S=>
  obtain⟨s,g⟩:=r;refine s.same λx o e=>?_;rcases eU e with⟨w,i⟩|⟨_,i⟩
  ·exact zF (g x w).1 i
  ·exact i
 |tape=>exact r.elim
 |«at» _=>exact r.elim
 |exc _ _=>exact r.elim
 |pin _ _ _=>exact r.elim
 |nst l ls dss=>
  obtain⟨rfl,g,j,u,n⟩:=r;exact .lst (zF (n l zJ6).1 g) (j.avs (zu λa o h e=>⟨h.1,e⟩) λa ha=>(n a (zJ2 _ ha)).1)
theorem ba (G:yE X.prog X.w X.K X.mg X.base CX0 k f fd ps (spA φ))(hr:zI k X.A)(hg:Gl X x)(hm:X.mg x=some (.ref f))(hk:PySem.W.keepIn X.K (.ref f)=true)(hb:Binds X.K fd ps [])
  (h:EvA X α (e::es) λas=>φ as λa=>Q a.d) (g:(x == ("__debug__":Str))=false:=by decide) (he:starEach (e::es) X.env=(false,eval e X.env)::starEach es X.env:=by rfl) (hpl:(backTo pos (starEach es X.env)).any (·.1)=false:=by rfl):
  EvD X α (.Call (.Name x p) (e::es) [] pos) Q:=λF σ H R m j=>by
 refine⟨_,lB G hr hg hm hk hb .nil pM yN g he hpl,?_⟩;refine h F σ H _ m λas vs H1 l t1 i o=>?_;have m1:=m.kz i t1;refine xU m1 o l λa v H' n r=>?_;obtain⟨g1,g2,g3⟩:=r.back m1;exact j _ v H' n g1 (i.trans g2) g3
theorem bL {Q:List PyData->Prop}(G:yE X.prog X.w X.K X.mg X.base CX0 k f fd ps (spA φ))(hr:zI k X.A)(hg:Gl X x)(hm:X.mg x=some (.ref f))(hk:PySem.W.keepIn X.K (.ref f)=true)(hb:Binds X.K fd ps [])
  (h:EvA X α (e::es) λas=>φ as λa=>∃ds,a=.own ds/\Q ds) (d:(x == ("__debug__":Str))=false:=by decide) (he:starEach (e::es) X.env=(false,eval e X.env)::starEach es X.env:=by rfl) (hpl:(backTo pos (starEach es X.env)).any (·.1)=false:=by rfl):
  EvL X α (.Call (.Name x p) (e::es) [] pos) Q:=λF σ H R m t=>by
 refine⟨_,lB G hr hg hm hk hb .nil pM yN d he hpl,?_⟩;refine h F σ H _ m λas vs H1 j t1 g o=>?_;have m1:=m.kz g t1;refine xU m1 o j λa v H' n i=>?_;obtain⟨ds,rfl,q⟩:=n;obtain⟨g1,g2,_⟩:=i.back m1;obtain⟨_,_,l,xs,r,rfl,s,u,B,y,z⟩:=i;cases s;exact t ds _ H' q g1 (g.trans g2) (yM.back m g t1 ⟨l,xs,rfl,u,y,z⟩)
end
theorem mq {i j:Nat}{x:Option A}(h:i≠j):(α.set i x)[j]?=α[j]?:=zO5 h
theorem zV {i:Nat}{x:Option A}{j:Nat}{y:Option A}(h:(α.set i x)[j]?=some y):(i=j/\x=y)\/(i≠j/\α[j]?=some y):=by
 by_cases d:i=j
 ·subst d;left;have f:i<α.length:=by
   have:=(zI8.mp h).1
   rwa [zP5]at this
  rw[zS7 f]at h;exact⟨rfl,zM7 h⟩
 ·right;rw[zO5 d]at h;exact⟨d,h⟩
theorem M.put {F:Fr}{σ:St}{H:Hp}{i:Nat}{b:Option A}(m:M F α σ H)(hf:∀s c x,σ[i]?=some s->b=some c->foot s c x->∃a,α[i]?=some (some a)/\foot s a x)
  (hok:∀s c,i<α.length->σ[i]?=some s->b=some c->xE (Gz F (α.set i b) σ H) F H s c) (G:∀c,b=some c->noX c:=by intro c z;cases z;trivial):zv (Gz F α σ H) (Gz F (α.set i b) σ H)/\M F (α.set i b) σ H:=by
 have y:zv (Gz F α σ H) (Gz F (α.set i b) σ H):=zu λa o h e=>⟨λz=>h (by
  rcases z with z|⟨j,c,s,e1,n,f⟩
  ·exact .inl z
  ·rcases zV e1 with⟨rfl,z⟩|⟨B,g⟩
   ·obtain⟨u,w,v⟩:=hf s c a n z f;exact .inr ⟨i,u,s,w,n,v⟩
   ·exact .inr ⟨j,c,s,g,n,f⟩),e⟩
 have old:∀{j:Nat} {c:A} {s:Option V} {x:Addr},(α.set i b)[j]?=some (some c)->σ[j]?=some s->foot s c x->∃a,α[j]?=some (some a)/\foot s a x:=λ{j c s x} e1 n f=>by
  rcases zV e1 with⟨rfl,z⟩|⟨B,g⟩
  ·exact hf s c x n z f
  ·exact⟨c,g,f⟩
 refine⟨y,by rw[zP5];exact m.len,λj c s e1 n=>?_,λj k c d s t x e1 n w v f1 f2=>?_,λj r q e D c s x e1 n f=>?_,m.tp,m.keep,m.oex⟩
 ·rcases zV e1 with⟨rfl,z⟩|⟨B,g⟩
  ·refine hok s c ?_ n z;have:=(zI8.mp e1).1
   rwa [zP5]at this
  ·exact(m.ok j c s g n).stay y (λx o f e=>⟨e,(m.ft g n f).1,(m.ft g n f).2.1⟩) rfl λ_ _ _ l=>l
 ·obtain⟨u,g1,g2⟩:=old e1 w f1;obtain⟨C,g3,I⟩:=old n v f2;exact m.dj j k u C s t x g1 g3 w v g2 I
 ·obtain⟨u,g1,g2⟩:=old e1 n f;rcases zV e with⟨rfl,z⟩|⟨_,E⟩
  ·exact(G _ z).elim
  ·exact m.xd j r q E D u s x g1 n g2
theorem M.gave {F:Fr}{σ:St}{H:Hp}{i:Nat}{a:A}{s:Option V}{b:Option A}{x:Addr}(m:M F α σ H)(e1:α[i]?=some (some a))(h:σ[i]?=some s)(f:foot s a x)(hb:∀c,b=some c->¬foot s c x):¬Ow F (α.set i b) σ x:=by
 rintro(z|⟨j,c,t,l,d,g⟩)
 ·exact(m.ft e1 h f).1 z
 ·rcases zV l with⟨rfl,z⟩|⟨n,k⟩
  ·rw[h]at d;cases d;exact hb c z g
  ·exact n (m.dj i j a c s t x e1 k h d f g)
theorem zm0 {F:Fr}{σ:St}{H:Hp}{i:Nat}{b:A}(hb:∀s x,¬foot s b x):zv (Gz F α σ H) (Gz F (α.set i (some b)) σ H):=zu λa o h e=>⟨λz=>h (by
 rcases z with z|⟨j,c,s,e1,g,f⟩
 ·exact .inl z
 ·rcases zV e1 with⟨rfl,z⟩|⟨k,d⟩
  ·cases z;exact(hb _ _ f).elim
  ·exact .inr ⟨j,c,s,d,g,f⟩),e⟩
theorem M.frz {F:Fr}{σ:St}{H:Hp}{i:Nat}{ds:List PyData}(m:M F α σ H)(hi:α[i]?=some (some (.own ds))):M F (α.set i (some (.dat (.list ds)))) σ H:=
 (m.put (b:=some (.dat (.list ds))) (λs c' x _ z f=>by cases z;exact f.elim) λs c' _ g z=>by
  cases z;obtain⟨l,o,d,h,j,n,k⟩:=m.owc i _ hi;rw[d]at g;cases g;exact⟨.ref l,rfl,(j.same (zm0 (b:=.dat (.list ds)) λ_ _ f=>f)).av (zF (m.gave hi d rfl λc z=>by cases z;exact id) h)⟩).2
theorem zs0 {F:Fr}{σ:St}{H H':Hp}{i:Nat}{a:A}{b:Option A}(m:M F α σ H)(k:Kz F H H')(hi:α[i]?=some (some a))(x:Addr)(o:HO)(r:¬Ob o)(h:Gz F (α.set i b) σ H' x=some o):Gz F α σ H' x=some o:=by
 obtain⟨g,d⟩:=zj h;refine zF ?_ d;rintro(z|⟨j,c,s,e1,n,f⟩)
 ·exact g (.inl z)
 ·by_cases l:i=j
  ·subst l;obtain⟨g1,g2,o',g3,t⟩:=m.ft e1 n f;rw[k _ _ g3 (m.tp.nt g1)]at d;cases d;exact r t
  ·exact g (.inr ⟨j,c,s,by rw[mq l];exact e1,n,f⟩)
theorem nZ {Q:List PyData->Prop}{i:Nat}{a:A}{b:Option A}(hi:α[i]?=some (some a))(hm:∀F σ H,M F α σ H->M F (α.set i b) σ H)(h:EvL X (α.set i b) e λd=>uq d=true/\Q d):EvL X α e Q:=λF σ H R m k=>
 h F σ H R (hm F σ H m) λd v H' q t kz r=>by
  obtain⟨l,xs,j,n,o,w⟩:=r;refine k d v H' q.2 t kz ⟨l,xs,j,n,o,w.noL (λa ys hno z=>?_) q.1⟩;obtain⟨f,u⟩:=zj z;obtain⟨s,g⟩:=zj (zs0 m kz hi a ys hno (zF f.1 u));exact zF ⟨s,f.2⟩ g
theorem tM {Q:Bool->Prop}(i:Nat){ds:List PyData}(hi:α[i]?=some (some (.own ds)))(h:EvT X (α.set i (some (.dat (.list ds)))) e Q):EvT X α e Q:=λF σ H R m k=>h F σ H R (m.frz hi) k
theorem ag {Q:List PyData->Prop}(i:Nat){ds:List PyData}(hi:α[i]?=some (some (.own ds)))(h:EvL X (α.set i (some (.dat (.list ds)))) e λd=>uq d=true/\Q d):EvL X α e Q:=nZ hi (λ_ _ _ m=>m.frz hi) h
def ItW (p:Addr->Prop)(J:It)(ds:List PyData)(G:Hp):Prop:=∀(i:Nat) (f:Hp) (q:Addr->Prop),zv G (sub q f)->
 (∀d,ds[i]?=some d->J.go i f/\∀x g,J.yld i f x g->zv f g/\((∀a o,g a=some o->f a=none->q a)->AV (sub q g) x d))/\(ds.length<=i->J.stop i f)
def zb1 (X:Cx)(tg e:Expr):TI:=λσ H R=>∃t,PI X tg e t/\t σ H R
theorem tD {tg e:Expr}:PI X tg e (zb1 X tg e):=λpins s σ H R I d=>by obtain⟨t,p,q⟩:=d;exact p pins s σ H R I q
def EvI (X:Cx)(α:Ev)(tg e:Expr)(Q:List PyData->Prop):Prop:=∀(F:Fr) (σ:St) (H:Hp) (R:It->Hp->Prop),M F α σ H->
 (∀ds J H',Q ds->zB F H'->Kz F H H'->ItW (λx=>¬Ow F α σ x) J ds (Gz F α σ H')->R J H')->zb1 X tg e σ H R
theorem zZ {tg:Expr}{Q:List PyData->Prop}(h:EvD X α e λx=>∃ds,x=.list ds/\Q ds):EvI X α tg e Q:=λF σ H R m k=>by
 refine⟨_,lH zi,?_⟩;refine h F σ H _ m λx u H1 l t1 n o=>?_;obtain⟨ds,rfl,q⟩:=l;obtain⟨a,xs,rfl,f,g⟩:=o.lst_inv;refine⟨a,rfl,⟨xs,SqL.of (zj f).2⟩,k ds _ H1 q t1 n λi w p s=>⟨λd hd=>?_,λr=>?_⟩⟩
 ·obtain⟨x,j,av⟩:=g.get hd;have ha:=SqL.of (K:=X.K) (zj (s _ _ f)).2;refine⟨⟨xs,x,ha,j⟩,λt v y=>?_⟩;obtain⟨e,y⟩:=y;subst e;have:=y xs ha;rw[j]at this;cases this;exact⟨zv.refl _,λ_=>av.same s⟩
 ·exact⟨xs,SqL.of (zj (s _ _ f)).2,by rw[g.length];exact r⟩
theorem rG {p:Addr->Prop}{lo:Int}{n:Nat}{G:Hp}:ItW p (Itr lo n) ((zr lo n).map .int) G:=λi h q s=>⟨λd hd=>by
  rw[zK0,zL5]at hd;obtain⟨z,f,rfl⟩:=hd;have hi:i<n:=by
   have:=(zI8.mp f).1
   rwa [zc]at this
  rw[yF hi]at f;cases f;refine⟨hi,λx j y=>?_⟩;obtain⟨rfl,rfl⟩:=y;exact⟨zv.refl _,λ_=>.int _⟩,λg=>by
  rw[zI5,zc]at g;exact g⟩
theorem wU {tg:Expr}{Q:List PyData->Prop}(hg:Gl X "range")(hm:X.mg "range"=none)(h:EvD X α a λx=>∃j,x=.int j/\-(2 ^ 62)<=j/\j<2 ^ 62/\Q ((zr 0 j.toNat).map .int))(d:starEach [a] X.env=[(false,eval a X.env)]:=by rfl):
  EvI X α tg (.Call (.Name "range" p) [a] [] pos) Q:=λF σ H R m k=>by
 refine⟨_,iW hg hm (zE zi yp d) d,?_⟩;refine h F σ H _ m λx o H1 f t1 g i=>?_;obtain⟨j,rfl,l,n,q⟩:=f;cases i.int_inv;exact⟨j,rfl,l,n,k _ _ H1 q t1 g rG⟩
theorem ju {tg:Expr}{Q:List PyData->Prop}(hg:Gl X "range")(hm:X.mg "range"=none)(h:EvD X α a λx=>EvD X α b λy=>∃i j,x=.int i/\y=.int j/\(-(2 ^ 62)<=i/\i<2 ^ 62/\-(2 ^ 62)<=j/\j<2 ^ 62)/\Q ((zr i (j-i).toNat).map .int))
  (r:starEach [a,b] X.env=[(false,eval a X.env),(false,eval b X.env)]:=by rfl) (d:starEach [b] X.env=[(false,eval b X.env)]:=by rfl) (f:starEach [a,b] X.env=(false,eval a X.env)::starEach [b] X.env:=by rfl):
  EvI X α tg (.Call (.Name "range" p) [a,b] [] pos) Q:=λF σ H R m k=>by
 refine⟨_,jQ hg hm (zE zi (zE zi yp d) f) r d,?_⟩;refine h F σ H _ m λx z H1 s t1 g t=>?_;have m1:=m.kz g t1;refine s F σ H1 _ m1 λy A o n w u l=>?_;obtain⟨i,j,rfl,rfl,v,q⟩:=n;cases t.int_inv;cases l.int_inv;exact⟨i,j,rfl,v,k _ _ o q w (g.trans u) rG⟩
end
inductive Pat where
 |one (i:Nat)
 |many (is:List Nat)
 |nest (i:Nat) (is:List Nat)
def xG :List Nat->List PyData->Ev->Option Ev
 |[],[],α=>some α
 |i::is,d::ds,α=>xG is ds (α.set i (some (.dat d)))
 |_,_,_=>none
def Pat.bind :Pat->PyData->Ev->Option Ev
 |.one i,d,α=>some (α.set i (some (.dat d)))
 |.many is,.tuple ds,α=>xG is ds α
 |.nest i is,.tuple [d,.tuple ds],α=>xG is ds (α.set i (some (.dat d)))
 |_,_,_=>none
def gIs :List Nat->TGs
 |[]=>zs3
 |i::is=>kJ (sO i) (gIs is)
def qA (K:PySem.W.Frag):Pat->TG
 |.one i=>sO i
 |.many is=>gX K is.length (gIs is)
 |.nest i is=>gX K 2 (kJ (sO i) (kJ (gX K is.length (gIs is)) zs3))
def Pat.slots :Pat->List Nat
 |.one i=>[i]
 |.many is=>is
 |.nest i is=>i::is
def isFree (α:Ev)(i:Nat):Bool:=match α[i]? with
 |some none=>true
 |_=>false
def Pat.free (p:Pat)(α:Ev):Bool:=p.slots.all (isFree α)
section
variable {X:Cx}{α α':Ev}{F:Fr}{σ:St}{H:Hp}
theorem M.store {i:Nat}{v:V}{b:A}{H':Hp}(m:M F α σ H)(t:zB F H')(k:Kz F H H')(hn:∀x,foot (some v) b x->H x=none)(hok:xE (sub (λx=>¬Ow F α σ x/\¬foot (some v) b x) H') F H' (some v) b)(P:noX b:=by trivial):M F (α.set i (some b)) (σ.set i (some v)) H':=by
 have L:=m.kz k t;have D:∀{j:Nat} {c:A} {s:Option V},(α.set i (some b))[j]?=some (some c)->(σ.set i (some v))[j]?=some s->(i=j/\c=b/\s=some v)\/(i≠j/\α[j]?=some (some c)/\σ[j]?=some s):=λ{j c s} e1 n=>by
  rcases zV e1 with⟨rfl,z⟩|⟨K,G⟩
  ·cases z;have O:i<σ.length:=by
    have:=(zI8.mp n).1
    rwa [zP5]at this
   rw[zS7 O]at n;cases n;exact .inl ⟨rfl,rfl,rfl⟩
  ·rw[zO5 K]at n;exact .inr ⟨K,G,n⟩
 have ow:∀{y:Addr},Ow F (α.set i (some b)) (σ.set i (some v)) y->Ow F α σ y\/foot (some v) b y:=λ{y} h=>by
  rcases h with z|⟨j,c,s,e1,n,f⟩
  ·exact .inl (.inl z)
  ·rcases D e1 n with⟨_,rfl,rfl⟩|⟨_,g1,g2⟩
   ·exact .inr f
   ·exact .inl (.inr ⟨j,c,s,g1,g2,f⟩)
 have g1:zv (sub (λx=>¬Ow F α σ x/\¬foot (some v) b x) H') (Gz F (α.set i (some b)) (σ.set i (some v)) H'):=zu λa o h e=>⟨λz=>(ow z).elim h.1 h.2,e⟩;have N:zv (Gz F α σ H) (sub (λx=>¬Ow F α σ x/\¬foot (some v) b x) H'):=zu λa o h e=>⟨⟨h,λz=>by rw[hn a z]at e;cases e⟩,k a o e (m.tp.nt (ow0 h))⟩;refine⟨by rw[zP5,zP5];exact m.len,λj c s e1 n=>?_,λj E c d s s' x e1 n Q I f1 f2=>?_,λj r q e E c s x e1 n f=>?_,t,m.keep.trans k,L.oex⟩
 ·rcases D e1 n with⟨rfl,rfl,rfl⟩|⟨_,u,p⟩
  ·exact hok.stay g1 (λx o f e=>by
    obtain⟨B,C,_⟩:=qV hok f;exact⟨e,B,C⟩) rfl λ_ _ _ l=>l
  ·exact(m.ok j c s u p).stay (N.trans g1) (λx o f e=>by
    obtain⟨B,C,_⟩:=m.ft u p f;exact⟨k x o e (m.tp.nt B),B,C⟩) rfl λ_ _ _ l=>l.kz k t
 ·have nn:∀{j:Nat} {c:A} {s:Option V},α[j]?=some (some c)->σ[j]?=some s->foot s c x->¬foot (some v) b x:=λ{j c s} u p f g=>by
   obtain⟨_,_,o,w,_⟩:=m.ft u p f;rw[hn x g]at w;cases w
  rcases D e1 Q with⟨rfl,rfl,rfl⟩|⟨_,u,p⟩
  ·rcases D n I with⟨rfl,_⟩|⟨_,B,C⟩
   ·rfl
   ·exact absurd f1 (nn B C f2)
  ·rcases D n I with⟨rfl,rfl,rfl⟩|⟨_,B,C⟩
   ·exact absurd f2 (nn u p f1)
   ·exact m.dj j E c d s s' x u B p C f1 f2
 ·rcases zV e with⟨rfl,z⟩|⟨_,J⟩
  ·cases z;exact P.elim
  ·rcases D e1 n with⟨rfl,rfl,rfl⟩|⟨_,u,p⟩
   ·exact(m.lnk J).none (hn x f)
   ·exact m.xd j r q J E c s x u p f
theorem M.set {i:Nat}{v:V}{d:PyData}(m:M F α σ H)(av:AV (Gz F α σ H) v d):M F (α.set i (some (.dat d))) (σ.set i (some v)) H:=
 m.store m.tp Kz.refl (λx z=>z.elim) ⟨v,rfl,av.same (zu λa o h e=>⟨⟨h,λz=>z⟩,e⟩)⟩
theorem M.setC {i:Nat}{v:V}{c:PyData}{H':Hp}(m:M F α σ H)(t:zB F H')(k:Kz F H H')(j:gE F α σ H v H' c):M F (α.set i (some (.ow c))) (σ.set i (some v)) H':=by
 obtain⟨l,o,rfl,b,d,f⟩:=j;have nl:¬Ow F α σ l:=m.fresh b;refine m.store t k (λx z=>?_) ⟨l,o,rfl,d,f.same (zu λa o h e=>⟨⟨h.1,λz=>h.2 (by cases z;rfl)⟩,e⟩),ow0 nl,m.fresh0 b⟩;have g:some (V.ref l)=some (.ref x):=z;cases g;exact b
theorem M.setOwn {i:Nat}{v:V}{ds:List PyData}{H':Hp}(m:M F α σ H)(t:zB F H')(k:Kz F H H')(a:yM F α σ H v H' ds):M F (α.set i (some (.own ds))) (σ.set i (some v)) H':=m.setC t k a.c
theorem M.wr {x:Addr}{o:HO}(m:M F α σ H)(hno:wo o)(d:F.O0 x)(v:∀t b c,F.tp=some (t,b,c)->x≠t/\x≠b/\x≠c)(h0:F.H0 x=none)(hpl:Plain H x)(B:∀(i:Nat) r q,α[i]?=some (some (.exc r q))->r.H0 x=none):M F α σ (upd H x o):=by
 have C:zv (Gz F α σ H) (Gz F α σ (upd H x o)):=zu λa u h e=>⟨h,by rw[zh (λz=>h (.inl (by rw[z];exact d)))];exact e⟩;refine⟨m.len,λj c s e1 p=>?_,m.dj,m.xd,m.tp.upd v hpl,λy u e n=>?_,λy hy=>?_⟩
 ·have:=m.ok j c s e1 p;cases c with
  |exc r q=>
   have l:Lnk r F H:=this;exact⟨l.tp,l.o,l.ok.upd (λa b c e=>v a b c (l.tp▸e)) hpl,λy u e n=>by rw[zh (zl e (B j r q e1))];exact l.k y u e n⟩
  |_=>exact this.stay C (λy u f e=>by
    obtain⟨g,w,_⟩:=m.ft e1 p f;exact⟨by rw[zh (λz=>g (by rw[z];exact d))];exact e,g,w⟩) rfl λ_ _ z=>by cases z
 ·rw[zh (zl e h0)];exact m.keep y u e n
 ·by_cases z:y=x
  ·exact⟨o,by rw[z];exact zk,hno⟩
  ·obtain⟨u,A,hn⟩:=m.oex y hy;exact⟨u,by rw[zh z];exact A,hn⟩
theorem M.forget {α0:Ev}(m:M F α σ H)(k:α0.length=α.length)(le:∀(i:Nat) a,α0[i]?=some (some a)->α[i]?=some (some a)):M F α0 σ H:=by
 have ow:∀{y:Addr},Ow F α0 σ y->Ow F α σ y:=λ{y} h=>by
  rcases h with z|⟨j,c,s,e1,b,f⟩
  ·exact .inl z
  ·exact .inr ⟨j,c,s,le _ _ e1,b,f⟩
 have n:zv (Gz F α σ H) (Gz F α0 σ H):=zu λa o h e=>⟨λz=>h (ow z),e⟩;exact⟨k.trans m.len,λj c s e1 b=>(m.ok j c s (le _ _ e1) b).stay n (λx o f e=>⟨e,(m.ft (le _ _ e1) b f).1,(m.ft (le _ _ e1) b f).2.1⟩) rfl λ_ _ _ l=>l,λj g c d s s' x e1 b=>m.dj j g c d s s' x (le _ _ e1) (le _ _ b),λj r q e g c s x e1=>m.xd j r q (le _ _ e) g c s x (le _ _ e1),m.tp,m.keep,m.oex⟩
theorem uj {H:Hp}:∀{is:List Nat}{ds:List PyData}{α α':Ev}{σ:St}{xs:List V}{R:St->Hp->Prop},xG is ds α=some α'->M F α σ H->(∀G,zv (Gz F α σ H) G->AVs G xs ds)->(∀b,M F α' b H->R b H)->gIs is xs σ H R
 |[],[],α,α',σ,xs,R,e,m,av,k=>by
  cases e;cases av _ (zv.refl _);exact⟨rfl,k σ m⟩
 |i::is,d::ds,α,α',σ,xs,R,e,m,av,k=>by
  cases h:av _ (zv.refl _)with
  |@cons x xs _ _ h1 h2=>
   refine⟨x,xs,rfl,?_⟩;have n:zv (Gz F α σ H) (Gz F (α.set i (some (.dat d))) (σ.set i (some x)) H):=zu λa o h e=>⟨λz=>h (by
    rcases z with z|⟨j,c,s,e1,l,f⟩
    ·exact .inl z
    ·rcases zV e1 with⟨_,z⟩|⟨p,g⟩
     ·cases z;exact f.elim
     ·rw[zO5 p]at l;exact .inr ⟨j,c,s,g,l,f⟩),e⟩
   exact uj (is:=is) (ds:=ds) e (m.set (i:=i) h1) (λG s=>h2.same (n.trans s)) k
 |[],_::_,_,_,_,_,_,e,_,_,_=>by cases e
 |_::_,[],_,_,_,_,_,e,_,_,_=>by cases e
theorem Pat.nest_inv {i:Nat}{is:List Nat}{d:PyData}(e:(Pat.nest i is).bind d α=some α'):∃a ds,d=.tuple [a,.tuple ds]/\xG is ds (α.set i (some (.dat a)))=some α':=by
 cases d with
 |tuple xs=>
  cases xs with
  |nil=>cases e
  |cons a r=>
   cases r with
   |nil=>cases e
   |cons b r=>
    cases r with
    |nil=>
     cases b with
     |tuple ds=>exact⟨_,_,rfl,e⟩
     |_=>cases e
    |cons _ _=>cases b<;>cases e
 |_=>cases e
theorem rZ :∀{is:List Nat}{ds:List PyData}{α α':Ev},xG is ds α=some α'->ds.length=is.length:=by
 intro is
 induction is with
 |nil=>intro ds α α' h;cases ds with|nil=>rfl|cons _ _=>cases h
 |cons i is a=>intro ds α α' h;cases ds with|nil=>cases h|cons d ds=>rw[zM0,zM0,a h]
theorem qB {K:PySem.W.Frag}{pat:Pat}{d:PyData}{v:V}{R:St->Hp->Prop}(e:pat.bind d α=some α')(m:M F α σ H)(av:AV (Gz F α σ H) v d)(k:∀g,M F α' g H->R g H):qA K pat v σ H R:=by
 cases pat with
 |one i=>cases e;exact k _ (m.set av)
 |many is=>
  cases d with
  |tuple ds=>
   obtain⟨a,xs,rfl,p,l⟩:=av.tup_inv;exact⟨a,xs,rfl,SqT.of (zj p).2,by rw[l.length];exact rZ e,uj e m (λG s=>l.same s) k⟩
  |_=>cases e
 |nest i is=>
  obtain⟨y,ds,rfl,e⟩:=Pat.nest_inv e;obtain⟨a,xs,rfl,p,l⟩:=av.tup_inv;cases l with
  |@cons x0 r _ _ z1 z2=>
   cases z2 with
   |@cons x1 r _ _ z3 z4=>
    cases z4;have m1:=m.set (i:=i) z1;have u:zv (Gz F α σ H) (Gz F (α.set i (some (.dat y))) (σ.set i (some x0)) H):=zu λa o h e=>⟨λz=>h (by
     rcases z with z|⟨j,c,s,e1,t,f⟩
     ·exact .inl z
     ·rcases zV e1 with⟨_,z⟩|⟨x,n⟩
      ·cases z;exact f.elim
      ·rw[zO5 x]at t;exact .inr ⟨j,c,s,n,t,f⟩),e⟩
    obtain⟨b,ys,rfl,A,q⟩:=(z3.same u).tup_inv;exact⟨a,_,rfl,SqT.of (zj p).2,rfl,_,_,rfl,_,_,rfl,⟨b,ys,rfl,SqT.of (zj A).2,by rw[q.length];exact rZ e,uj e m1 (λG s=>q.same s) λg w=>⟨rfl,k g w⟩⟩⟩
theorem tS :∀{is:List Nat}{ds:List PyData}{α α':Ev},xG is ds α=some α'->α'.length=α.length
 |[],[],_,_,e=>by cases e;rfl
 |i::is,d::ds,α,α',e=>by
  have:=tS (is:=is) (ds:=ds) e
  rwa [zP5]at this
 |[],_::_,_,_,e=>by cases e
 |_::_,[],_,_,e=>by cases e
theorem tP :∀{is:List Nat}{ds:List PyData}{α α':Ev}{j:Nat},xG is ds α=some α'->j∉is->α'[j]?=α[j]?
 |[],[],_,_,_,e,_=>by cases e;rfl
 |i::is,d::ds,α,α',j,e,h=>by
  rw[tP (is:=is) (ds:=ds) e λz=>h (zJ2 _ z)];exact zO5 λ(z:i=j)=>h (by rw[<-z];exact zJ6)
 |[],_::_,_,_,_,e,_=>by cases e
 |_::_,[],_,_,_,e,_=>by cases e
theorem sY :∀{is:List Nat}{ds:List PyData}{α α':Ev}{j:Nat}{a:A},xG is ds α=some α'->α'[j]?=some (some a)->(∀d,a≠.dat d)->α[j]?=some (some a)
 |[],[],_,_,_,_,e,h,_=>by cases e;exact h
 |i::is,d::ds,α,α',j,a,e,h,hn=>by
  rcases zV (sY (is:=is) (ds:=ds) e h hn)with⟨_,z⟩|⟨_,z⟩
  ·cases z;exact absurd rfl (hn d)
  ·exact z
 |[],_::_,_,_,_,_,e,_,_=>by cases e
 |_::_,[],_,_,_,_,e,_,_=>by cases e
theorem Pat.is_ok {pat:Pat}{d:PyData}(e:pat.bind d α=some α'):∃is ds,pat.slots=is/\xG is ds α=some α':=by
 cases pat with
 |one i=>cases e;exact⟨_,[d],rfl,rfl⟩
 |many is=>
  cases d with
  |tuple ds=>exact⟨_,ds,rfl,e⟩
  |_=>cases e
 |nest i is=>
  obtain⟨a,ds,rfl,e⟩:=Pat.nest_inv e;exact⟨_,a::ds,rfl,e⟩
theorem Pat.back {pat:Pat}{d:PyData}(e:pat.bind d α=some α')(fr:pat.free α=true)(m:M F α' σ H):M F α σ H:=by
 obtain⟨is,ds,rfl,e⟩:=Pat.is_ok e;refine m.forget (tS e).symm λj a h=>?_;by_cases b:j∈pat.slots
 ·have:=zY3.mp fr j b;unfold isFree at this;rw[h]at this;cases this
 ·rw[tP e b];exact h
end
section
variable {X:Cx}{α:Ev}
def jJ (X:Cx)(α:Ev)(ifs:List Expr)(Q:Bool->Prop):Prop:=∀(F:Fr) (σ:St) (H:Hp) (R:Bool->Hp->Prop),M F α σ H->(∀b H',Q b->zB F H'->Kz F H H'->R b H')->∃t,wC X ifs t/\t σ H R
def zg7 (X:Cx)(ifs:List Expr):TT:=λσ H R=>∃t,wC X ifs t/\t σ H R
theorem kG {ifs:List Expr}:wC X ifs (zg7 X ifs):=λpins s σ H Q I a=>by obtain⟨t,p,q⟩:=a;exact p pins s σ H Q I q
theorem uC {Q:Bool->Prop}(q:Q true):jJ X α [] Q:=λF σ H R m k=>⟨_,za6,k _ H q m.tp Kz.refl⟩
theorem qt {c:Expr}{Q:Bool->Prop}(h:EvT X α c Q):jJ X α [c] Q:=λF σ H R m k=>⟨_,aw xv,h F σ H R m k⟩
def seen :Option A->Option A
 |some (.dat d)=>some (.dat d)
 |some .tape=>some .tape
 |_=>none
def yx (imp:List (Option Nat))(α:Ev):Ev:=imp.map λo=>o.bind λj=>(α[j]?).bind seen
theorem pN {imp:List (Option Nat)}{i:Nat}{a:A}(h:(yx imp α)[i]?=some (some a)):∃j,imp[i]?=some (some j)/\α[j]?=some (some a)/\((∃d,a=.dat d)\/a=.tape):=by
 unfold yx at h;rw[zK0,zL5]at h;obtain⟨o,e,f⟩:=h;cases o with
 |none=>cases f
 |some j=>
  have c:(α[j]?).bind seen=some a:=f;cases q:α[j]? with
  |none=>rw[q]at c;cases c
  |some b=>
   rw[q]at c;cases b with
   |none=>cases c
   |some b=>
    cases b with
    |dat d=>cases c;exact⟨j,e,q,.inl ⟨d,rfl⟩⟩
    |tape=>cases c;exact⟨j,e,q,.inr rfl⟩
    |_=>cases c
theorem pH {imp:List (Option Nat)}{σ:St}{i j:Nat}{v:V}(a:imp[i]?=some (some j))(b:σ[j]?=some (some v)):(xH imp σ)[i]?=some (some v):=by
 unfold xH;rw[zK0,a];show some ((σ[j]?).bind id)=_;rw[b];rfl
def yY (Y:Addr->Shared->Hp->List Addr->Cx)(pat:Pat)(ifs:List Expr)(elt:Expr)(α0:Ev):List PyData->List PyData->(List PyData->Prop)->Prop
 |[],acc,Q=>Q acc
 |d::ds,acc,Q=>∃a,pat.bind d α0=some a/\∀C s2 b fp,jJ (Y C s2 b fp) a ifs λk=>if k=true then ∀C s2 b fp,EvD (Y C s2 b fp) a elt λy=>yY Y pat ifs elt α0 ds (acc++[y]) Q else yY Y pat ifs elt α0 ds acc Q
def eC (Y:Addr->Shared->Hp->List Addr->Cx)(e:Expr):TE:=λσ H Q=>∀C s2 a fp,tu (Y C s2 a fp) e σ H Q
def tsC (Y:Addr->Shared->Hp->List Addr->Cx)(ifs:List Expr):TT:=λσ H Q=>∀C s2 a fp,zg7 (Y C s2 a fp) ifs σ H Q
theorem lA {N:List Str}{imp:List (Option Nat)}{scope:Scope}{tg iter elt:Expr}{ifs:List Expr}{pat:Pat}{Q:List PyData->Prop}(I:pat.free (yx imp α)=true)
  (h:EvI X α tg iter λds=>ds.length<=1000/\yY (λC s2 u fp=>X.comp N scope C s2 u fp) pat ifs elt (yx imp α) ds [] Q)
  (F:Fr) (σ:St) (H:Hp) (R:VK) (m:M F α σ H) (k:∀ds v H',Q ds->zB F H'->Kz F H H'->yM F α σ H v H' ds->R v H'):
  ∃Y:Addr->Shared->Hp->List Addr->Cx,Y=(λC s2 u fp=>X.comp N scope C s2 u fp)/\gk (zb1 X tg iter) imp (qA X.K pat) (tsC Y ifs) (eC Y elt) σ H R:=by
 refine⟨_,rfl,?_⟩;refine h F σ H _ m λds J H1 b6 t1 k1 b1 acc g=>?_;obtain⟨hl,q1⟩:=b6;have m1:=m.kz k1 t1;have b8:¬Ow F α σ acc:=m1.fresh g
 let A:Fr:=⟨H1,λx=>Ow F α σ x\/x=acc,F.tp⟩
 let Nd:Ev->Prop:=λl=>∀(j:Nat) a,l[j]?=some (some a)->(∃d,a=.dat d)\/a=.tape
 have B:Nd (yx imp α):=λj a z=>by
  obtain⟨_,_,_,n⟩:=pN z;exact n
 have owc:∀{l:Ev} {P:St} {x:Addr},Nd l->(Ow A l P x↔A.O0 x):=λ{l P x} hh=>⟨λz=>z.elim id λa9=>by
  obtain⟨j,a,s,e1,Z,f⟩:=a9;rcases hh j a e1 with⟨d,rfl⟩|rfl
  ·exact f.elim
  ·exact f.elim,.inl⟩
 have gz:∀{l a5:Ev} {D τ2:St} {H:Hp},Nd l->Nd a5->zv (Gz A l D H) (Gz A a5 τ2 H):=λh1 h2=>zu λa o h e=>⟨λz=>h ((owc h1).mpr ((owc h2).mp z)),e⟩;have a6:∀{u:Hp},zB F u->zB A u:=λt=>t.to rfl λx z=>.inl (.inl z);have U:zv H1 (upd H1 acc (.lst [])):=zU g;have b7:M A (yx imp α) (xH imp σ) (upd H1 acc (.lst [])):=by
  have g1:zv (Gz F α σ H1) (Gz A (yx imp α) (xH imp σ) (upd H1 acc (.lst []))):=λa o e=>by
   obtain⟨z1,z2⟩:=zj e;have na:a≠acc:=zl z2 g;exact zF (λz=>((owc B).mp z).elim z1 na) (by rw[zh na];exact z2)
  refine⟨by unfold yx xH;rw[zI5,zI5],λi a s e1 Z=>?_,λi j a b s t x e1 Z _ _ f=>?_,λi r q e=>(by rcases B i _ e with⟨d,w⟩|w<;>cases w),a6 (t1.same U),λx o e _=>U x o e,?_⟩
  ·obtain⟨j,w1,w2,w3⟩:=pN e1;rcases w3 with⟨d,rfl⟩|rfl
   ·obtain⟨v,g2,g3⟩:=m1.dat j d w2;rw[pH w1 g2]at Z;cases Z;exact⟨v,rfl,g3.same g1⟩
   ·obtain⟨t,b,c,g2,g3⟩:=m1.tvar j w2;rw[pH w1 g3]at Z;cases Z;exact⟨t,b,c,g2,rfl⟩
  ·rcases B i a e1 with⟨d,rfl⟩|rfl
   ·exact f.elim
   ·exact f.elim
  ·rintro x (z|z)
   ·have:∃o,H1 x=some o/\wo o:=m1.owEx z;obtain⟨o,ho,hn⟩:=this;exact⟨o,U _ _ ho,hn⟩
   ·exact⟨_,by rw[z];exact zk,xO⟩
 refine⟨λi n ys P u=>n=ds.length-i/\i<=ds.length/\∃ad:List PyData,M A (yx imp α) P u/\u acc=some (.lst ys)/\AVs (Gz A (yx imp α) P u) ys ad/\ad.length<=i/\yY (λC s2 u fp=>X.comp N scope C s2 u fp) pat ifs elt (yx imp α) (ds.drop i) ad Q,
  ⟨ds.length,by simp,zJ8 _,[],b7,zk,.nil,zJ0 _,q1⟩,?_⟩
 rintro i n ys P u ⟨rfl,hi,ad,m2,ha,av,V,cw⟩;have sG:zv (Gz F α σ H1) (Gz A (yx imp α) P u):=λa o e=>by
  obtain⟨z1,z2⟩:=zj e;exact m2.old a o (zF (p:=λx=>¬A.O0 x) (λz=>z.elim z1 (zl z2 g)) z2)
 obtain⟨w1,w2⟩:=b1 i u _ sG;by_cases E:i<ds.length
 ·have hd:ds[i]?=some ds[i]:=zI7 E;have a7:ds.drop i=ds[i]::ds.drop (i+1):=zM4 E;rw[a7]at cw;obtain⟨l,eb,body⟩:=cw;obtain⟨go,yl⟩:=w1 _ hd;have G:Nd l:=λj a z=>by
   obtain⟨is,b9,_,e⟩:=Pat.is_ok eb;by_cases hn:∀d,a≠.dat d
   ·exact B j a (sY e z hn)
   ·simp only[Classical.not_forall,Classical.not_not]at hn;exact .inl hn
  refine .inr ⟨go,λW T H'=>∃ad:List PyData,M A (yx imp α) T H'/\H' acc=some (.lst W)/\AVs (Gz A (yx imp α) T H') W ad/\ad.length<=i+1/\yY (λC s2 u fp=>X.comp N scope C s2 u fp) pat ifs elt (yx imp α) (ds.drop (i+1)) ad Q,
   λW T H' b2=>by obtain⟨a8,r1,r2,r3,r4,r5⟩:=b2;exact⟨ds.length-(i+1),(om0 E),rfl,E,a8,r1,r2,r3,r4,r5⟩,λx H3 y=>?_⟩
  obtain⟨L,b3⟩:=yl x H3 y;have m3:M A (yx imp α) P H3:=m2.kz (Kz.of_same L) (m2.tp.same L);have a1:=b3 λa o _ e=>m2.fresh e;refine qB eb m3 a1 λD m4 C s2 b0 fp=>?_;refine body C s2 b0 fp A D H3 _ m4 λb H5 qb t5 k5=>?_;have m5:=m4.kz k5 t5;have a2:AVs (Gz A (yx imp α) D H5) ys ad:=av.same ((Kz.of_same L).gz m2.tp |>.trans ((gz (τ2:=D) B G).trans ((k5.gz m4.tp).trans (gz G B))));have accN:NT A acc:=⟨λt b c e=>by
   have:=(t1 t b c e).1.free g;exact⟨this.1,this.2.1⟩,vS t1.tab g⟩
  have a4:H5 acc=some (.lst ys):=k5 _ _ (L _ _ ha) accN;cases b with
  |false=>
   have b5:yY (λC s2 u fp=>X.comp N scope C s2 u fp) pat ifs elt (yx imp α) (ds.drop (i+1)) ad Q:=by simpa using qb
   exact rA ⟨ad,Pat.back eb I m5,a4,a2,(zK1 V (zL0 _ _)),b5⟩
  |true=>
   refine rq λC s2 S fp=>?_;have qe:EvD (X.comp N scope C s2 S fp) l elt λy=>yY (λC s2 u fp=>X.comp N scope C s2 u fp) pat ifs elt (yx imp α) (ds.drop (i+1)) (ad++[y]) Q:=by
    have z:=qb;rw[if_pos rfl]at z;exact z C s2 S fp
   refine qe A D H5 _ m5 λy v H6 qy t6 k6 r6=>?_;have m6:=m5.kz k6 t6;have a3:H6 acc=some (.lst ys):=k6 _ _ a4 accN;have hlen:ys.length<=i:=by rw[av.length];exact V
   have O:A.O0 acc:=.inr rfl;have a0:∀t b c,A.tp=some (t,b,c)->acc≠t/\acc≠b/\acc≠c:=λt b c e=>(t1 t b c e).1.free g;have m7:=(Pat.back eb I m6).wr (o:=.lst (ys++[v])) xO O a0 g (qj a3) (λi r q z=>by rcases B i _ z with⟨d,w⟩|w<;>cases w);refine⟨a3,yw (by lia),ad++[y],m7,zk,?_,by simp;exact V,qy⟩;have b4:zv (Gz A (yx imp α) D H6) (Gz A (yx imp α) D (upd H6 acc (.lst (ys++[v])))):=zu λa o h e=>⟨h,by rw[zh (λz=>h (.inl (by rw[z];exact O)))];exact e⟩;exact((a2.same ((gz (τ2:=D) B G).trans ((k6.gz m5.tp).trans (gz G B)))).append (.cons (r6.same (gz G B)) .nil)).same b4
 ·have e:i=ds.length:=(zS5 hi (zT0 E));subst e;rw[zR6]at cw;refine .inl ⟨w2 (zJ0 _),k ad _ u cw ?_ (k1.trans m2.keep) (yM.back m k1 t1 ⟨acc,ys,rfl,g,ha,av.same (zu λa o h e=>⟨⟨λz=>h (.inl (.inl z)),λz=>h (.inl (.inr z))⟩,e⟩)⟩)⟩;exact m.tp.re m2.tp rfl
theorem ji {N:List Str}{imp:List (Option Nat)}{scope:Scope}{tg iter elt:Expr}{ifs:List Expr}{pat:Pat}{Q:List PyData->Prop}{pos:Pos}(c:X.calm=true)(S:zz X.N X.env.scope N imp scope)(b:pat.free (yx imp α)=true)
  (hg:∀C s2 a fp,PG (X.comp N scope C s2 a fp) tg (qA X.K pat))
  (h:EvI X α tg iter λds=>ds.length<=1000/\yY (λC s2 a fp=>X.comp N scope C s2 a fp) pat ifs elt (yx imp α) ds [] Q) (d:∀x,foldedSetIterable iter X.env x=pure x:=by intro _;rfl):
  EvL X α (.ListComp elt [⟨tg,iter,ifs,0⟩] scope pos) Q:=λF σ H R m k=>by
 obtain⟨Y,rfl,h⟩:=lA b h F σ H R m k;exact⟨_,zx4 c S tD hg (λC s2 a fp pins s σ H Q I h=>kG pins s σ H Q I (h C s2 a fp)) (λC s2 a fp pins s σ H Q I h=>zi pins s σ H Q I (h C s2 a fp)) d,h⟩
section
variable {E:yo}{rest body:List Stmt}{e c tg iter:Expr}{pos p:Pos}
theorem rz.then {F:Fr}{D:Ends}(h:rz F E D):rz F {E with nx:=λa=>SvS X a rest E} {D with nx:=cE X rest D}:=
 ⟨λa b H' m q=>q F b H' D m h,h.rt,h.bk,h.ct⟩
theorem zt (q:E.nx α):SvS X α [] E:=λF σ H D m h=>⟨_,lV,h.nx _ _ _ m q⟩
theorem SvS.imp {d:List Stmt}{b:yo}(h:SvS X α d b)(hn:∀α,b.nx α->E.nx α)(hr:∀a,b.rt a->E.rt a)(hb:∀α,b.bk α->E.bk α)(f:∀α,b.ct α->E.ct α):SvS X α d E:=λF σ H D m r=>
 h F σ H D m ⟨λα σ H m q=>r.nx α σ H m (hn _ q),λa v H m q=>r.rt a v H m (hr _ q),λα σ H m q=>r.bk α σ H m (hb _ q),λα σ H m q=>r.ct α σ H m (f _ q)⟩
theorem yU (i:Nat){x:Str}{pos':Pos}(b:X.N.Nodup)(h:EvD X α e λd=>SvS X (α.set i (some (.dat d))) rest E)(hi:X.N[i]?=some x:=by rfl)(a:Loc X.env.scope x:=by first|exact Or.inl rfl|exact Or.inr rfl)
  (f:swapsWith e (some (.Name x pos')) pos.line X.env=pure false:=by rfl) (hf:X.fn x=true\/X.env.scope.names.lookup x=some .local:=by first|exact .inl rfl|exact .inr rfl|assumption):SvS X α (.Assign [.Name x pos'] e pos::rest) E:=λF σ H D m r=>by
 refine⟨_,zG (qS b hi a zi f hf) ya,?_⟩;exact h F σ H _ m λd v H1 g t1 j k=>g F _ H1 D ((m.kz j t1).set k) r
theorem yz (i:Nat){x:Str}{pos':Pos}(b:X.N.Nodup)(h:EvL X α e λds=>SvS X (α.set i (some (.own ds))) rest E)(hi:X.N[i]?=some x:=by rfl)(a:Loc X.env.scope x:=by first|exact Or.inl rfl|exact Or.inr rfl)
  (f:swapsWith e (some (.Name x pos')) pos.line X.env=pure false:=by rfl) (hf:X.fn x=true\/X.env.scope.names.lookup x=some .local:=by first|exact .inl rfl|exact .inr rfl|assumption):SvS X α (.Assign [.Name x pos'] e pos::rest) E:=λF σ H D m r=>by
 refine⟨_,zG (qS b hi a zi f hf) ya,?_⟩;exact h F σ H _ m λd v H1 g t1 j k=>g F _ H1 D (m.setOwn t1 j k) r
theorem eN (i:Nat){x:Str}{pos' a:Pos}{N:List Str}{imp:List (Option Nat)}{scope:Scope}{elt:Expr}{ifs:List Expr}{pat:Pat}(g:X.N.Nodup)(n:X.calm=true)(S:zz X.N X.env.scope N imp scope)(d:pat.free (yx imp α)=true)
  (hg:∀C s2 b fp,PG (X.comp N scope C s2 b fp) tg (qA X.K pat))
  (h:EvI X α tg iter λds=>ds.length<=1000/\yY (λC s2 b fp=>X.comp N scope C s2 b fp) pat ifs elt (yx imp α) ds [] λds=>SvS X (α.set i (some (.own ds))) rest E)
  (hi:X.N[i]?=some x:=by rfl) (o:Loc X.env.scope x:=by first|exact Or.inl rfl|exact Or.inr rfl) (f:swapsWith (.ListComp elt [⟨tg,iter,ifs,0⟩] scope a) (some (.Name x pos')) pos.line X.env=pure true:=by rfl)
  (hf:X.fn x=true\/X.env.scope.names.lookup x=some .local:=by first|exact .inl rfl|exact .inr rfl|assumption) (j:∀x,foldedSetIterable iter X.env x=pure x:=by intro _;rfl):
  SvS X α (.Assign [.Name x pos'] (.ListComp elt [⟨tg,iter,ifs,0⟩] scope a) pos::rest) E:=λF σ H D m r=>by
 obtain⟨Y,rfl,h⟩:=lA d h F σ H (λv H'=>cE X rest D (σ.set i (some v)) H') m λds v H' q t k l=>q F _ H' D (m.setOwn t k l) r;exact⟨_,zG (eW n S tD hg (λC s2 b fp pins s σ H Q I h=>kG pins s σ H Q I (h C s2 b fp)) (λC s2 b fp pins s σ H Q I h=>zi pins s σ H Q I (h C s2 b fp)) g hi o f hf j) ya,h⟩
theorem wt.dat {F:Fr}{σ:St}{H:Hp}{v:V}{d:PyData}(m:M F α σ H)(r:AV (Gz F α σ H) v d):wt F v H (.dat d):=
 ⟨m.tp,m.keep,r.same (zu λa o h e=>⟨ow0 h,e⟩)⟩
theorem yV (h:EvD X α e λd=>E.rt (.dat d)):SvS X α (.Return (some e) pos::rest) E:=λF σ H D m r=>by
 refine⟨_,zG (sS zi) ya,?_⟩;exact h F σ H _ m λd v H1 a t1 b f=>r.rt _ _ _ (wt.dat (m.kz b t1) f) a
theorem xS (h:EvL X α e λds=>E.rt (.own ds)):SvS X α (.Return (some e) pos::rest) E:=λF σ H D m r=>by
 refine⟨_,zG (sS zi) ya,?_⟩;refine h F σ H _ m λd v H1 i t1 j k=>r.rt _ _ _ ?_ i;obtain⟨l,xs,f,b,g,n⟩:=k;exact⟨t1,m.keep.trans j,l,xs,_,f,rfl,m.fresh0 b,ow0 (m.fresh b),g,n.same (zu λa o h e=>⟨⟨ow0 h.1,h.2⟩,e⟩)⟩
theorem xy (i:Nat){x:Str}{ds:List PyData}(hi:α[i]?=some (some (.own ds)))(q:E.rt (.own ds))(n:X.N[i]?=some x:=by rfl)(f:Vis X.env.scope x:=by first|exact Or.inl rfl|exact Or.inr (Or.inl rfl)|exact Or.inr (Or.inr rfl))
  (hd:(x == ("__debug__":Str))=false:=by decide) (b:(x == ("__classdict__":Str))=false:=by decide):SvS X α (.Return (some (.Name x p)) pos::rest) E:=λF σ H D m r=>by
 obtain⟨l,xs,d,j,k,s,g⟩:=m.own i ds hi;refine⟨_,zG (sS (yX n f hd b)) ya,.ref l,d,r.rt (.own ds) _ _ ⟨m.tp,m.keep,l,xs,_,rfl,rfl,g,s,j,k.same (zu λa o h e=>⟨⟨ow0 h,λz=>h (by rw[z];exact .inr ⟨i,_,_,hi,d,rfl⟩)⟩,e⟩)⟩ q⟩
theorem va {a b:List Stmt}(h:EvT X α c λk=>SvS X α (if k=true then a else b) {E with nx:=λd=>SvS X d rest E}):SvS X α (.If c a b pos::rest) E:=λF σ H D m r=>by
 refine⟨_,zG (zg1 xv ya ya) ya,?_⟩;refine h F σ H _ m λk H1 f t1 g=>?_;cases k with
 |true=>exact rq ((by simpa using f:SvS X α a _) F σ H1 _ (m.kz g t1) r.then)
 |false=>exact rA ((by simpa using f:SvS X α b _) F σ H1 _ (m.kz g t1) r.then)
theorem vf (i:Nat){ds:List PyData}{a:List Stmt}(hi:α[i]?=some (some (.own ds)))(h:SvS X (α.set i (some (.dat (.list ds)))) a E):SvS X α a E:=λF σ H D m r=>h F σ H D (m.frz hi) r
theorem M.wrC {F:Fr}{σ:St}{H:Hp}{i:Nat}{c c':PyData}{l:Addr}{o':HO}(m:M F α σ H)(hi:α[i]?=some (some (.ow c)))(v:σ[i]?=some (some (.ref l)))(av:yO (Gz F α σ H) o' c'):
  M F (α.set i (some (.ow c'))) σ (upd H l o'):=by
 obtain⟨Y,o,R,O,S,I,Q⟩:=m.owc i c hi;rw[v]at R;cases R;have B:∀{j:Nat} {a:A} {s:Option V},(α.set i (some (.ow c')))[j]?=some (some a)->σ[j]?=some s->(i=j/\a=.ow c'/\s=some (.ref l))\/(i≠j/\α[j]?=some (some a)):=λ{j a s} e1 g=>by
  rcases zV e1 with⟨rfl,z⟩|⟨C,d⟩
  ·cases z;rw[v]at g;cases g;exact .inl ⟨rfl,rfl,rfl⟩
  ·exact .inr ⟨C,d⟩
 have J:∀{y:Addr},Ow F (α.set i (some (.ow c'))) σ y->Ow F α σ y:=λ{y} h=>by
  rcases h with z|⟨j,a,s,e1,g,f⟩
  ·exact .inl z
  ·rcases B e1 g with⟨rfl,rfl,rfl⟩|⟨C,d⟩
   ·exact .inr ⟨i,_,_,hi,v,f⟩
   ·exact .inr ⟨j,a,s,d,g,f⟩
 have ol:Ow F α σ l:=.inr ⟨i,_,_,hi,v,rfl⟩;have N:zv (Gz F α σ H) (Gz F (α.set i (some (.ow c'))) σ (upd H l o')):=zu λa o h e=>⟨λz=>h (J z),by rw[zh (λz=>h (by rw[z];exact ol))];exact e⟩;refine⟨by rw[zP5];exact m.len,λj a s e1 g=>?_,λj D a b s t x e1 g K G f1 f2=>?_,λj r q e D a s x e1 g f=>?_,m.tp.updO I (S.plain O),λy o e n=>?_,λy hy=>?_⟩
 ·rcases B e1 g with⟨rfl,rfl,rfl⟩|⟨C,d⟩
  ·exact⟨l,o',rfl,zk,av.same N,I,Q⟩
  ·refine(m.ok j a s d g).stay N (λy u f e=>?_) rfl λr q U k=>⟨k.tp,k.o,k.ok.updO (λz=>I (k.o _ z)) (S.plain O),λy u e n=>?_⟩
   ·obtain⟨W,T,_⟩:=m.ft d g f;refine⟨?_,W,T⟩;rw[zh λz=>C (m.dj i j _ a _ s l hi d v g rfl (by rw[<-z];exact f))];exact e
   ·rw[zh (zl e (m.xd j r q (by rw[<-U];exact d) i _ _ l hi v rfl))];exact k.k y u e n
 ·rcases B e1 K with⟨rfl,rfl,rfl⟩|⟨C,d⟩
  ·rcases B g G with⟨rfl,_⟩|⟨L,w⟩
   ·rfl
   ·exact m.dj i D _ b _ t x hi w v G f1 f2
  ·rcases B g G with⟨rfl,rfl,rfl⟩|⟨L,w⟩
   ·exact m.dj j i a _ s _ x d hi K v f1 f2
   ·exact m.dj j D a b s t x d w K G f1 f2
 ·rcases zV e with⟨_,z⟩|⟨_,P⟩
  ·cases z
  ·rcases B e1 g with⟨rfl,rfl,rfl⟩|⟨_,d⟩
   ·exact m.xd j r q P i _ _ x hi v f
   ·exact m.xd j r q P D a s x d g f
 ·rw[zh (zl e Q)];exact m.keep y o e n
 ·rw[zh (λz=>I (by rw[<-z];exact hy))];exact m.oex y hy
theorem M.wrOwn {F:Fr}{σ:St}{H:Hp}{i:Nat}{ds es:List PyData}{l:Addr}{ys:List V}(m:M F α σ H)(hi:α[i]?=some (some (.own ds)))(a:σ[i]?=some (some (.ref l)))(av:AVs (Gz F α σ H) ys es):
  M F (α.set i (some (.own es))) σ (upd H l (.lst ys)):=m.wrC hi a (.lst av)
theorem wK (i:Nat){x:Str}{ds:List PyData}{p1 p2 p3:Pos}(hi:α[i]?=some (some (.own ds)))(h:EvD X α e λd=>ds.length<1000/\SvS X (α.set i (some (.own (ds++[d])))) rest E)
  (u:X.N[i]?=some x:=by rfl) (t:Vis X.env.scope x:=by first|exact Or.inl rfl|exact Or.inr (Or.inl rfl)|exact Or.inr (Or.inr rfl)) (hd:(x == ("__debug__":Str))=false:=by decide) (j:(x == ("__classdict__":Str))=false:=by decide)
  (a:attributeBase (.Name x p1) "append" X.env (eval (.Name x p1) X.env)=eval (.Name x p1) X.env:=by rfl) (n:starEach [e] X.env=(false,eval e X.env)::starEach [] X.env:=by rfl)
  (hpl:((((backTo p3 (starEach [e] X.env)).all λx=>!x.fst)&&(backToKw p3 (keywordEach [] X.env)).all λx=>x.fst.isSome)&&decide (([e].length+([]:List Keyword).length+if([]:List Keyword).isEmpty=true then 0 else 1)<30))=true:=by rfl)
  (b:(p2.endLine == p3.line)=true:=by rfl) (g:swapsWith (.Call (.Attribute (.Name x p1) "append" p2) [e] [] p3) none pos.line X.env=pure false:=by rfl):SvS X α (.Expr (.Call (.Attribute (.Name x p1) "append" p2) [e] [] p3) pos::rest) E:=λF σ H D m r=>by
 obtain⟨l,xs,q,k,s,y,z⟩:=m.own i ds hi;refine⟨_,zG (kF (zi2 PySem.F.plainAttrs_list PySem.F.slot_list_append PySem.F.type_list_append qo (yX u t hd j) (zE zi yp n) a hpl b n) g) ya,?_⟩;refine⟨.ref l,q,.inl ⟨rfl,_,SqL.of k⟩,?_⟩;refine h F σ H _ m λd v H1 o t1 f w=>?_;have m1:=m.kz f t1;refine⟨l,xs,v,rfl,rfl,f _ _ k (m.tp.nt y),by rw[s.length];exact yw (zN6 o.1),?_⟩;exact o.2 F σ _ D (m1.wrOwn hi q ((s.same (f.gz m.tp)).append (.cons w .nil))) r
theorem uu (i:Nat){x:Str}{ds:List PyData}{p1 p2 p3:Pos}(hi:α[i]?=some (some (.own ds)))(h:EvD X α e λd=>∃es,d=.list es/\ds.length+es.length<=1000/\SvS X (α.set i (some (.own (ds++es)))) rest E)
  (w:X.N[i]?=some x:=by rfl) (u:Vis X.env.scope x:=by first|exact Or.inl rfl|exact Or.inr (Or.inl rfl)|exact Or.inr (Or.inr rfl)) (hd:(x == ("__debug__":Str))=false:=by decide) (k:(x == ("__classdict__":Str))=false:=by decide)
  (a:attributeBase (.Name x p1) "extend" X.env (eval (.Name x p1) X.env)=eval (.Name x p1) X.env:=by rfl) (o:starEach [e] X.env=(false,eval e X.env)::starEach [] X.env:=by rfl)
  (hpl:((((backTo p3 (starEach [e] X.env)).all λx=>!x.fst)&&(backToKw p3 (keywordEach [] X.env)).all λx=>x.fst.isSome)&&decide (([e].length+([]:List Keyword).length+if([]:List Keyword).isEmpty=true then 0 else 1)<30))=true:=by rfl)
  (f:(p2.endLine == p3.line)=true:=by rfl) (j:swapsWith (.Call (.Attribute (.Name x p1) "extend" p2) [e] [] p3) none pos.line X.env=pure false:=by rfl):SvS X α (.Expr (.Call (.Attribute (.Name x p1) "extend" p2) [e] [] p3) pos::rest) E:=λF σ H D m r=>by
 obtain⟨l,xs,s,n,t,B,C⟩:=m.own i ds hi;refine⟨_,zG (kF (zi2 PySem.F.plainAttrs_list PySem.F.slot_list_extend PySem.F.type_list_extend jO (yX w u hd k) (zE zi yp o) a hpl f o) j) ya,?_⟩;refine⟨.ref l,s,.inl ⟨rfl,_,SqL.of n⟩,?_⟩;refine h F σ H _ m λd v H1 y t1 g z=>?_;have m1:=m.kz g t1;obtain⟨es,rfl,A,q⟩:=y;obtain⟨b,ys,rfl,g1,g2⟩:=z.lst_inv;refine⟨l,b,xs,ys,rfl,rfl,g _ _ n (m.tp.nt B),(zj g1).2,by rw[t.length,g2.length];exact zN6 (yw A),?_⟩;exact q F σ _ D (m1.wrOwn hi s ((t.same (g.gz m.tp)).append g2)) r
theorem zt2 (i:Nat){x:Str}{a:Expr}{ds:List PyData}{p1 p2:Pos}(hi:α[i]?=some (some (.own ds)))(h:EvD X α e λd=>EvD X α a λy=>∃k j,y=.int k/\ixN ds.length k=some j/\SvS X (α.set i (some (.own (ds.set j d)))) rest E)
  (K:X.N[i]?=some x:=by rfl) (J:Vis X.env.scope x:=by first|exact Or.inl rfl|exact Or.inr (Or.inl rfl)|exact Or.inr (Or.inr rfl)) (hd:(x == ("__debug__":Str))=false:=by decide) (G:(x == ("__classdict__":Str))=false:=by decide)
  (w:swapsWithSole [.Subscript (.Name x p1) a p2] e pos.line X.env=pure false:=by rfl) (hw:swappedStores [.Subscript (.Name x p1) a p2] e X.env=pure none:=by rfl)
  (ha:(assignEach [.Subscript (.Name x p1) a p2] X.env).map (·.2)=[assign (.Subscript (.Name x p1) a p2) X.env]:=by rfl) (f:PG X (.Subscript (.Name x p1) a p2) (zv6 (zr1 i) (tu X a) zf5):=by exact nP (yX rfl (by first|exact Or.inl rfl|exact Or.inr (Or.inl rfl)|exact Or.inr (Or.inr rfl))) zi set_list):
  SvS X α (.Assign [.Subscript (.Name x p1) a p2] e pos::rest) E:=λF σ H D m r=>by
 obtain⟨l,xs,n,t,o,s,M⟩:=m.own i ds hi;refine⟨_,zG (nE zi f w hw ha) ya,?_⟩;refine h F σ H _ m λd v H1 z t1 g A=>?_;have m1:=m.kz g t1;refine⟨.ref l,n,?_⟩;refine z F σ H1 _ m1 λy L O B I b u=>?_;have m2:=m1.kz b I;obtain⟨k,j,rfl,C,q⟩:=B;cases u.int_inv;refine⟨l,xs,k,j,rfl,rfl,b _ _ (g _ _ t (m.tp.nt s)) (m.tp.nt s),by rw[o.length];exact C,?_⟩;exact q F σ _ D (m2.wrOwn hi n (((o.same (g.gz m.tp)).same (b.gz m1.tp)).set (A.same (b.gz m1.tp)) j)) r
def xW (X:Cx)(pat:Pat)(body rest:List Stmt)(E:yo):List PyData->Ev->Prop
 |[],α=>SvS X α rest E
 |d::ds,α=>∃a,pat.bind d α=some a/\SvS X a body {nx:=xW X pat body rest E ds,ct:=xW X pat body rest E ds,bk:=λb=>SvS X b rest E,rt:=E.rt}
theorem qX {pat:Pat}(V:PassesOwn (model X.prog X.w) X.A X.env X.xe)(U:X.calm=true)(hg:PG X tg (qA X.K pat))(h:EvI X α tg iter λds=>xW X pat body rest E ds α)
  (Q:∀x,foldedSetIterable iter X.env x=pure x:=by intro _;rfl):SvS X α (.For tg iter body [] pos::rest) E:=λF σ H D m r=>by
 refine⟨_,zG (cH V U tD hg ya Q) ya,?_⟩;refine h F σ H _ m λds J H1 R t1 S C=>?_;have m1:=m.kz S t1;have Y:=m1.up;have u:rz (F.up (Gz F α σ H1)) E D:=r.up;refine⟨λi n j H'=>n=ds.length-i/\i<=ds.length/\∃b,M (F.up (Gz F α σ H1)) b j H'/\xW X pat body rest E (ds.drop i) b,⟨ds.length,by simp,zJ8 _,α,Y,R⟩,?_⟩;rintro i n j H' ⟨rfl,hi,b,k,lw⟩;obtain⟨W,I⟩:=C i H' _ (m1.upold k);by_cases d:i<ds.length
 ·have hd:ds[i]?=some ds[i]:=zI7 d;rw[zM4 d]at lw;obtain⟨O,L,body⟩:=lw;obtain⟨go,P⟩:=W _ hd;refine .inr ⟨go,λg l=>∃b,M (F.up (Gz F α σ H1)) b g l/\xW X pat _ rest E (ds.drop (i+1)) b,λg l ⟨s,T,N⟩=>⟨ds.length-(i+1),(om0 d),rfl,d,s,T,N⟩,λx G y=>?_⟩;obtain⟨t,v⟩:=P x G y;have m3:=k.kz (Kz.of_same t) (k.tp.same t);refine qB L m3 (v λa o _ e=>k.fresh e) λz m4=>?_;exact body _ z G _ m4 ⟨λf σ2 B m2 q=>⟨f,m2,q⟩,u.rt,λf σ2 B m2 q=>q _ σ2 B D m2 u,λf σ2 B m2 q=>⟨f,m2,q⟩⟩
 ·have e:i=ds.length:=(zS5 hi (zT0 d));subst e;rw[zR6]at lw;exact .inl ⟨I (zJ0 _),lw _ j H' D k u⟩
theorem zH {pat:Pat}{ds:List PyData}(P:Nat->Ev->Prop)(h0:P 0 α)(j:∀i d α,ds[i]?=some d->P i α->∃a,pat.bind d α=some a/\SvS X a body {nx:=P (i+1),ct:=P (i+1),bk:=λg=>SvS X g rest E,rt:=E.rt})
  (hd:∀α,P ds.length α->SvS X α rest E):xW X pat body rest E ds α:=by
 have key:∀n i α,n=ds.length-i->i<=ds.length->P i α->xW X pat body rest E (ds.drop i) α:=by
  intro n
  induction n with
  |zero=>
   intro i α hn hi p;have e:i=ds.length:=(om5 hn hi);subst e;rw[zR6];exact hd α p
  |succ n h=>
   intro i α hn hi p;have f:i<ds.length:=(om6 hn);rw[zM4 f];obtain⟨a,e,b⟩:=j i ds[i] α (zI7 f) p;exact⟨a,e,b.imp (λα p=>h (i+1) α (om7 hn) f p) (λ_ z=>z) (λ_ z=>z) (λα p=>h (i+1) α (om7 hn) f p)⟩
 exact key _ 0 α rfl (zJ8 _) h0
end
end
section
variable {P:Program}{w:World}{K:PySem.W.Frag}{mg:Str->Option Value}{base:Heap}
theorem M.start {F:Fr}{N:List Str}{vs:List V}{as:List A}{H:Hp}(e:F.H0=H)(t:zB F H)(o:∀x,F.O0 x->∃u,H x=some u/\wo u)(n:ye F (sub (λx=>¬F.O0 x) H) vs as):
  M F (as.map some++List.replicate (N.length-as.length) none) (L2.start N vs) H:=by
 have D:=n.length;have g:∀{i:Nat} {a:A},(as.map some++List.replicate (N.length-as.length) none)[i]?=some (some a)->as[i]?=some a:=λ{i a} h=>by
  rcases zN2 i as.length with z|z
  ·rw[zO6 (by rw[zI5];exact z),zK0,zL5]at h;obtain⟨b,l,k⟩:=h;cases k;exact l
  ·rw[zQ5 (by rw[zI5];exact z),zQ2]at h;split at h<;>cases h
 have at':∀{vs:List V} {as:List A} {i:Nat} {a:A},ye F (sub (λx=>¬F.O0 x) H) vs as->as[i]?=some a->∃v,vs[i]?=some v/\iB F (sub (λx=>¬F.O0 x) H) v a:=by
  intro vs as i a h
  induction h generalizing i with
  |nil=>intro e;simp at e
  |cons h r C=>
   intro e;cases i with
   |zero=>simp at e;subst e;exact⟨_,rfl,h⟩
   |succ i=>obtain⟨v,l,k⟩:=C (by simpa using e);exact⟨v,by simpa using l,k⟩
 have y:∀{i:Nat} {v:V},vs[i]?=some v->(L2.start N vs)[i]?=some (some v):=λ{i v} h=>by
  have hi:i<vs.length:=(zI8.mp h).1;unfold L2.start;rw[zO6 (by rw[zI5];exact hi),zK0,h];rfl
 have no:∀(i:Nat) a,(as.map some++List.replicate (N.length-as.length) none)[i]?=some (some a)->(∃d,a=.dat d)\/a=.tape:=λi a z=>by
  obtain⟨v,_,h⟩:=at' n (g z);cases a with
  |dat d=>exact .inl ⟨d,rfl⟩
  |tape=>exact .inr rfl
  |_=>exact h.elim
 have B:zv (sub (λx=>¬F.O0 x) H) (Gz F (as.map some++List.replicate (N.length-as.length) none) (L2.start N vs) H):=zu λa o h e=>⟨λz=>z.elim h λm=>by
  obtain⟨i,b,s,e1,_,f⟩:=m;rcases no i b e1 with⟨d,rfl⟩|rfl
  ·exact f.elim
  ·exact f.elim,e⟩
 refine⟨by unfold L2.start;simp[D],λi a s e1 p=>?_,λi j a b s t x e1 _ _ _ f=>?_,λi r q z=>(by rcases no i _ z with⟨d,w⟩|w<;>cases w),t,λx o' h _=>by rw[<-e];exact h,o⟩
 ·obtain⟨v,l,k⟩:=at' n (g e1);rw[y l]at p;cases p;rcases no i a e1 with⟨d,rfl⟩|rfl
  ·exact⟨v,rfl,AV.same B k⟩
  ·obtain⟨t',b,c,E,rfl⟩:=k;exact⟨t',b,c,E,rfl⟩
 ·rcases no i a e1 with⟨d,rfl⟩|rfl
  ·exact f.elim
  ·exact f.elim
theorem fnA {x qual:Str}{st:Stmt}{f:Addr}{fd:FuncData}{N ps:List Str}{k:Nat}{φ:List A->(A->Prop)->Prop}(G:Fun K x qual st f fd)(S:zT N ps (zf st))(hlen:∀as Q,φ as Q->as.length=ps.length)
  (b:∀(cdv:Value) (d:Around) (outer:List Env) (s:Shared) (H:Hp) (E:XK) (as:List A) (Q:A->Prop),zI k (d.deeper (envOfC qual (zf st) s.heap.objs.size f cdv))->φ as Q->
   SvS (wq CX0 P w K mg base N qual (zf st) f cdv d outer s H E).nox (as.map some++List.replicate (N.length-as.length) none) (zw st) {nx:=λ_=>Q (.dat .none),rt:=Q}):yE P w K mg base CX0 (k+1) f fd ps (spA φ):=by
 refine G.ok S (λvs H Q E h=>?_) (λcdv d outer s H vs l E hr h=>?_)
 ·obtain⟨F,as,j,_,_,_,g,c,_⟩:=h;rw[g.length,hlen as _ c]
 ·obtain⟨F,as,j,e,t,o,g,c,i⟩:=h;refine b cdv d outer s H E as j hr c F _ H _ (M.start e t o g) ⟨λα σ H' m q=>?_,λa v H' r q=>i a v H' q r,λ_ _ _ _ z=>z.elim,λ_ _ _ _ z=>z.elim⟩;exact i _ _ _ q ⟨m.tp,m.keep,.non⟩
end
section
variable {X:Cx}{pins:List (Addr×Obj)}{σ:St}{H:Hp}{s:Shared}{h':Heap}
theorem Inv.turnL {t':Nat}{ch:List Addr}(I:Inv X pins σ H s)(k:∀b o,b∉ch->s.heap.get? b=some o->h'.get? b=some o)(hf:∀b∈ch,yT X pins H b):Inv X pins σ H {s with heap:=h',toks:=t'}:=by
 have d:∀b u,H b=some u->b∉ch:=λb u e z=>by rw[(hf b z).1]at e;cases e
 refine I.step (g':=s.gens) (d':=s.drawn) (ch:=ch) (λb hb=>?_) (λb o _ _ a e _=>k b o a e) (λb o _ _ a e _=>⟨o.slots,k b o a e⟩) (λ_ _ _ _ n=>n)
  (λb o a e=>⟨o,k b o a e⟩) (λ_ _ e=>e) (λ_ _ _ e=>e) (λb ps e=>⟨#[],by rw[e];simp⟩) (λm hm=>?_) (λb u e=>?_) I.bare
 ·obtain⟨_,f1,_,g,f4,h⟩:=hf b hb;exact⟨g,f1,f4,h⟩
 ·obtain⟨o,es,ep,f,r⟩:=hm;exact⟨o,es,ep,k _ o (λz=>(hf _ z).2.1 rfl) f,r⟩
 ·refine(I.hok b u e).stay (λc v a q=>k c v ?_ q) (λ_ q=>q) λ_ _ q=>q;rcases a with z|z
  ·rw[z];exact d b u e
  ·exact d c _ z
theorem Inv.turnLay {t':Nat}{ch:List Addr}{T:Addr}{o:HO}(I:Inv X pins σ H s)(k:∀b o,b∉ch->s.heap.get? b=some o->h'.get? b=some o)(hf:∀b∈ch,yT X pins H b)(f:s.heap.objs.size<=T)(new:zS X.prog X.w (upd H T o) h' T o):
  Inv X pins σ (upd H T o) {s with heap:=h',toks:=t'}:=by
 have d:∀b u,H b=some u->b∉ch:=λb u e z=>by rw[(hf b z).1]at e;cases e
 have hn:H T=none:=I.hok.fresh f;have lt:∀{b:Addr} {u:Obj},s.heap.get? b=some u->b≠T:=λe=>zK2 (zI9 (zJ5 e) f);refine I.step (g':=s.gens) (d':=s.drawn) (ch:=ch) (λb hb=>?_) (λb o _ _ a e _=>k b o a e) (λb o _ _ a e _=>⟨o.slots,k b o a e⟩) (λb u _ e n=>by rw[zh (lt e)];exact n)
  (λb o a e=>⟨o,k b o a e⟩) (λb xs e=>by rw[zh (zl e hn)];exact e) (λb u xs e=>by rw[zh (zl e hn)];exact e) (λb ps e=>⟨#[],by rw[zh (zl e hn),e];simp⟩) (λm hm=>?_) (λb u e=>?_) I.bare
 ·obtain⟨_,f1,_,h,f4,i⟩:=hf b hb;exact⟨h,f1,f4,i⟩
 ·obtain⟨o,es,ep,g,r⟩:=hm;exact⟨o,es,ep,k _ o (λz=>(hf _ z).2.1 rfl) g,r⟩
 ·by_cases hb:b=T
  ·subst hb;rw[zk]at e;cases e;exact new
  ·rw[zh hb]at e;refine(I.hok b u e).stay (λc v a q=>k c v ?_ q) (λc q=>by rw[zh (zl q hn)];exact q) λc xs q=>by rw[zh (zl q hn)];exact q
   rcases a with z|z
   ·rw[z];exact d b u e
   ·exact d c _ z
end
theorem zH7 {a b:Nat}(h:b<a):(a:Addr)≠b:=zT6 h
def Itz (K:PySem.W.Frag)(l1 l2:Addr):It:=
 ⟨λi H=>∃xs ys x y,SqL K H l1 xs/\SqL K H l2 ys/\xs[i]?=some x/\ys[i]?=some y,
  λi H v H'=>∃T x y,v=.ref T/\H T=none/\H'=upd H T (.tup [x,y])/\(∀xs,SqL K H l1 xs->xs[i]?=some x)/\∀ys,SqL K H l2 ys->ys[i]?=some y,
  λi H=>∃xs ys,SqL K H l1 xs/\SqL K H l2 ys/\(xs.length<=i\/ys.length<=i)⟩
def Ite (K:PySem.W.Frag)(l:Addr):It:=
 ⟨λi H=>∃xs x,SqL K H l xs/\xs[i]?=some x,
  λi H v H'=>∃T x,v=.ref T/\H T=none/\H'=upd H T (.tup [.int i,x])/\∀xs,SqL K H l xs->xs[i]?=some x,
  λi H=>∃xs,SqL K H l xs/\xs.length<=i⟩
theorem zy8 {P:Program}{w:World}{K:PySem.W.Frag}{elts:List Expr}{kk:Nat}{pos:Pos}{z TI TO i1 i2 l1 l2:Addr}(D:ZipApart z TI TO i1 i2 l1 l2):
  Turn P w K (.Tuple elts kk pos) (Itz K l1 l2) [z,TI,TO,i1,i2] z (λi h=>IsZip h z TI TO .none/\IsPair h TI (.ref i1) (.ref i2)/\(∃a b,IsPair h TO a b)/\h.IsListIter i1 l1 i/\h.IsListIter i2 l2 i) where
 mem:=by simp
 obj:=λi h st b hb=>by
  obtain⟨j,d,⟨a,c,l⟩,⟨V,e1,_,d1⟩,⟨U,B,_,d2⟩⟩:=st;simp only[zJ1,zK5,zN1]at hb;rcases hb with rfl|rfl|rfl|rfl|rfl
  ·exact⟨_,j,λv z=>by cases(show Data.fields _=Data.cell v from z)⟩
  ·exact⟨_,d,λv z=>by cases(show Data.seq _ _=Data.cell v from z)⟩
  ·exact⟨_,l,λv z=>by cases(show Data.seq _ _=Data.cell v from z)⟩
  ·exact⟨V,e1,λv z=>by rw[d1]at z;cases z⟩
  ·exact⟨U,B,λv z=>by rw[d2]at z;cases z⟩
 keep:=λi h h' st k=>by
  obtain⟨j,d,⟨a,c,l⟩,r,q⟩:=st;exact⟨k z (by simp) _ j,k TI (by simp) _ d,⟨a,c,k TO (by simp) _ l⟩,r.at λo e=>k i1 (by simp) o e,q.at λo e=>k i2 (by simp) o e⟩
 item:=by
  intro X R hw O Y i pins s σ H E I hf st hg;subst R hw O;obtain⟨xs,ys,x,y,f,g,S,hy⟩:=hg;obtain⟨C,m,p1,N⟩:=I.list f;obtain⟨F,n,p2,M⟩:=I.list g;obtain⟨u,Z,ru⟩:=m.get S;obtain⟨v,hv,rv⟩:=n.get hy;obtain⟨j,d,⟨a,c,l⟩,r,q⟩:=st;refine wpAny_pyNext_zip_item D j d l r q p1.isList p2.isList (x:=u) (y:=v) (by simpa using Z) (by simpa using hv) λh' a1 a2 a3 a4 a5 a6 hk=>⟨_,rfl,?_⟩;refine wpAny_letOwnedTupleGo_zip (s:={s with heap:=h'}) a1 λt b1 p=>?_;have L:s.heap.objs.size≠z:=zT6 (zJ5 j);have G:∀b o,b∉[z,TI,TO,i1,i2]->s.heap.get? b=some o->t.get? b=some o:=λb o hb e=>by
   simp only[zJ1,zK5,zN1,not_or]at hb;exact p.extBut _ _ hb.1 (hk b o hb.1 hb.2.2.1 hb.2.2.2.1 hb.2.2.2.2 e)
  have gT:t.get? s.heap.objs.size=some {cls:=.type "tuple",data:=.seq #[u,v]}:=p.extBut _ _ L a5;have J:=I.turnLay (t':=s.toks) (T:=s.heap.objs.size) (o:=.tup [x,y]) G hf (zJ0 _) ⟨by show 2<=sizeLine;decide,[u,v],.cons ru (.cons rv .nil),_,gT,rfl,0,rfl⟩;refine⟨.ref s.heap.objs.size,_,J,rfl,⟨_,x,y,rfl,I.hok.fresh (zJ0 _),rfl,λzs hz=>by rw[I.list_inj hz f];exact S,λzs hz=>by rw[I.list_inj hz g];exact hy⟩,⟨b1,p.extBut _ _ D.TIz (hk _ _ D.TIz D.TITO D.TIi1 D.TIi2 d),⟨u,v,p.extBut _ _ D.TOz a2⟩,a3.extBut p.extBut D.i1z,a4.extBut p.extBut D.i2z⟩,λb hb=>?_⟩;rw[zh]
  ·exact(hf b hb).1
  ·obtain⟨o,e,_⟩:=(show ∃o,s.heap.get? b=some o/\True from by
    simp only[zJ1,zK5,zN1]at hb;obtain⟨V,e1,_⟩:=r;obtain⟨U,B,_⟩:=q;rcases hb with rfl|rfl|rfl|rfl|rfl
    ·exact⟨_,j,trivial⟩
    ·exact⟨_,d,trivial⟩
    ·exact⟨_,l,trivial⟩
    ·exact⟨_,e1,trivial⟩
    ·exact⟨_,B,trivial⟩)
   exact zK2 (zJ5 e)
 done:=by
  intro X R hw O Y i pins s σ H E I hf st hg;subst R hw O;obtain⟨xs,ys,f,g,hl⟩:=hg;obtain⟨C,m,p1,N⟩:=I.list f;obtain⟨F,n,p2,M⟩:=I.list g;obtain⟨j,d,⟨a,c,l⟩,r,q⟩:=st;have e1:=m.length;have B:=n.length;refine wpAny_pyNext_zip_end (I.ok.hd Y) D j d l r q p1.isList p2.isList (hl.imp (λz=>by simp;exact zK1 (zL7 e1.symm) z) λz=>by simp;exact zK1 (zL7 B.symm) z) λh' hk=>⟨rfl,?_⟩;exact I.turnL (t':=s.toks) (ch:=[z,TI,TO,i1,i2]) (λb o hb e=>by
   simp only[zJ1,zK5,zN1,not_or]at hb;exact hk b o hb.1 hb.2.2.1 hb.2.2.2.1 hb.2.2.2.2 e) hf
 self:=λA i s Q E st h=>wpAny_pyIter_zip st.1 h
theorem iK {P:Program}{w:World}{K:PySem.W.Frag}{elts:List Expr}{S:Nat}{pos:Pos}{e it l:Addr}(hne:e≠it):
  Turn P w K (.Tuple elts S pos) (Ite K l) [e,it] e (λi h=>(∃old,IsEnum h e it i old)/\h.IsListIter it l i) where
 mem:=by simp
 obj:=λi h st b hb=>by
  obtain⟨⟨old,a⟩,⟨B,e1,_,U⟩⟩:=st;simp only[zJ1,zK5,zN1]at hb;rcases hb with rfl|rfl
  ·exact⟨_,a,λv z=>by cases(show Data.fields _=Data.cell v from z)⟩
  ·exact⟨B,e1,λv z=>by rw[U]at z;cases z⟩
 keep:=λi h h' st k=>by
  obtain⟨⟨old,a⟩,f⟩:=st;exact⟨⟨old,k e (by simp) _ a⟩,f.at λo q=>k it (by simp) o q⟩
 item:=by
  intro X p hw t C i pins s σ H E I hf st hg;subst p hw t;obtain⟨xs,x,c,D⟩:=hg;obtain⟨j,d,p1,r⟩:=I.list c;obtain⟨u,F,L⟩:=d.get D;obtain⟨⟨old,a⟩,f⟩:=st;refine wpAny_pyNext_enum_item a f p1.isList (x:=u) (by simpa using F) hne λh' a1 N M V hk=>⟨_,rfl,?_⟩;refine wpAny_letOwnedTupleGo_enum (s:={s with heap:=h',toks:=s.toks+1}) a1 λg O y=>?_;have n:s.heap.objs.size≠e:=zT6 (zJ5 a);have m:∀b o,b∉[e,it]->s.heap.get? b=some o->g.get? b=some o:=λb o hb q=>by
   simp only[zJ1,zK5,zN1,not_or]at hb;exact y.extBut _ _ hb.1 (hk b o hb.1 hb.2 q)
  have G:g.get? s.heap.objs.size=some {cls:=.type "tuple",data:=.seq #[.int i s.toks,u]}:=y.extBut _ _ n M;have J:=I.turnLay (t':=s.toks+1) (T:=s.heap.objs.size) (o:=.tup [.int i,x]) m hf (zJ0 _) ⟨by show 2<=sizeLine;decide,[.int i s.toks,u],.cons ⟨_,rfl⟩ (.cons L .nil),_,G,rfl,0,rfl⟩;refine⟨.ref s.heap.objs.size,_,J,rfl,⟨_,x,rfl,I.hok.fresh (zJ0 _),rfl,λzs hz=>by rw[I.list_inj hz c];exact D⟩,⟨⟨u,by simpa using O⟩,N.extBut y.extBut hne.symm⟩,λb hb=>?_⟩;rw[zh]
  ·exact(hf b hb).1
  ·obtain⟨o,q,_⟩:=(show ∃o,s.heap.get? b=some o/\True from by
    simp only[zJ1,zK5,zN1]at hb;obtain⟨B,e1,_⟩:=f;rcases hb with rfl|rfl
    ·exact⟨_,a,trivial⟩
    ·exact⟨_,e1,trivial⟩)
   exact zK2 (zJ5 q)
 done:=by
  intro X p hw t C i pins s σ H E I hf st hg;subst p hw t;obtain⟨xs,c,R⟩:=hg;obtain⟨j,d,p1,r⟩:=I.list c;obtain⟨⟨old,a⟩,f⟩:=st;have e1:=d.length;refine wpAny_pyNext_enum_end (I.ok.hd C) a f p1.isList (by simp;exact zK1 (zL7 e1.symm) R) λh' hk=>⟨rfl,?_⟩;exact I.turnL (t':=s.toks) (ch:=[e,it]) (λb o hb q=>by
   simp only[zJ1,zK5,zN1,not_or]at hb;exact hk b o hb.2 q) hf
 self:=λA i s Q E st h=>by
  obtain⟨⟨old,a⟩,f⟩:=st;exact wpAny_pyIter_enum a h
section
variable {X:Cx}{α:Ev}{elts:List Expr}{kk:Nat}{tp p pos:Pos}{a b:Expr}
def zA9 (K:PySem.W.Frag)(c:TA):TI:=λσ H R=>c σ H λvs H1=>∃l,vs=[.ref l]/\(∃xs,SqL K H1 l xs)/\R (Ite K l) H1
theorem bM {i:TA}(hg:Gl X "enumerate")(hm:X.mg "enumerate"=none)(ha:PA X [a] i)(r:starEach [a] X.env=[(false,eval a X.env)]:=by rfl):
  PI X (.Tuple elts kk tp) (.Call (.Name "enumerate" p) [a] [] pos) (zA9 X.K i):=by
 intro pins s σ H R I h;refine Call_ (xF I hg hm boot_enumerate (zP3 (thn (ha pos pins s σ H _ I h) λus s1 g=>?_) r rfl));obtain⟨vs,H1,d,x,v⟩:=g;obtain⟨l1,e,⟨xs,f⟩,q⟩:=v;subst e;obtain⟨u,rfl,l⟩:=Vals.one x;cases(show u=Value.ref l1 from l);obtain⟨k,w,p1,t⟩:=d.list f;refine call_enumerate_list p1.isList λh' j m y hk=>?_;refine wpAny_pyIter_enum (s:={s1 with heap:=h'}) j ?_;refine⟨_,_,_,_,H1,rfl,d.kept (t':=s1.toks) λb o e=>hk b o e,iK (zH7 (a:=s1.heap.objs.size+1) (b:=s1.heap.objs.size) (zO3 _)),⟨⟨_,j⟩,m⟩,λb hb=>?_,q⟩;simp only[zJ1,zK5,zN1]at hb;have c:s1.heap.objs.size<=b:=by
  have key:∀n b:Nat,n=s1.heap.objs.size->(b=n+1\/b=n)->n<=b:=λn b _ h=>by lia
  exact key _ _ rfl hb
 exact d.fpOk c (d.hok.fresh c)
def uW (n:Nat):List PyData->List PyData
 |[]=>[]
 |d::ds=>.tuple [.int n,d]::uW (n+1) ds
theorem xj :∀{ds:List PyData}{n i:Nat}{d:PyData},(uW n ds)[i]?=some d->∃e,ds[i]?=some e/\d=.tuple [.int ((n+i:Nat):Int),e]
 |[],n,i,d,h=>by simp[uW]at h
 |e::ds,n,0,d,h=>by simp[uW]at h;exact⟨e,rfl,by simp[<-h]⟩
 |e::ds,n,i+1,d,h=>by
  simp only[uW,z04]at h;obtain⟨g,f,c⟩:=xj h;exact⟨g,by simpa using f,by rw[c,Nat.add_assoc,Nat.add_comm 1 i]⟩
theorem yJ :∀(ds:List PyData) (n:Nat),(uW n ds).length=ds.length
 |[],_=>rfl
 |_::ds,n=>by simp[uW,yJ ds (n+1)]
theorem tL {Q:List PyData->Prop}(hg:Gl X "enumerate")(hm:X.mg "enumerate"=none)(h:EvD X α a λx=>∃ds,x=.list ds/\Q (uW 0 ds))(l:starEach [a] X.env=[(false,eval a X.env)]:=by rfl):
  EvI X α (.Tuple elts kk tp) (.Call (.Name "enumerate" p) [a] [] pos) Q:=λF σ H R m k=>by
 refine⟨_,bM hg hm (zE zi yp l) l,?_⟩;refine h F σ H _ m λx D H1 w t1 z A=>?_;obtain⟨ds,rfl,q⟩:=w;obtain⟨l1,xs,rfl,g1,g2⟩:=A.lst_inv;refine⟨l1,rfl,⟨xs,SqL.of (zj g1).2⟩,k _ _ H1 q t1 z λi C p s=>⟨λd hd=>?_,λt=>?_⟩⟩
 ·have s1:=SqL.of (K:=X.K) (zj (s _ _ g1)).2;obtain⟨e,he,rfl⟩:=xj hd;obtain⟨r,c,j⟩:=g2.get he;refine⟨⟨xs,r,s1,c⟩,λv E y=>?_⟩;obtain⟨T,x,rfl,g,rfl,f⟩:=y;have f:=f _ s1;rw[c]at f;cases f;refine⟨zU g,λfr=>?_⟩;have u:zv (Gz F α σ H1) (sub p (upd C T (.tup [.int i,r]))):=λa o e=>by
   obtain⟨B,n⟩:=zj (s a o e);exact zF B (by rw[zh (zl n g)];exact n)
  refine .tup (zF (fr T _ zk g) zk) (.cons ?_ (.cons (j.same u) .nil));rw[Nat.zero_add];exact .int _
 ·refine⟨xs,SqL.of (zj (s _ _ g1)).2,?_⟩;rw[yJ,<-g2.length]at t;exact t
end
structure Cal (P:Program)(w:World)(K:PySem.W.Frag)(mg:Str->Option Value)(base:Heap)(x:Str)(k:Nat)(φ:List A->(A->Prop)->Prop):Prop where
 ex:∃f fd ps,mg x=some (.ref f)/\PySem.W.keepIn K (.ref f)=true/\Binds K fd ps []/\yE P w K mg base CX0 k f fd ps (spA φ)
section
variable {X:Cx}{α:Ev}{e a b:Expr}{es:List Expr}{pos p:Pos}{Q:PyData->Prop}{k:Nat}{φ:List A->(A->Prop)->Prop}{x:Str}
theorem mQ (C:Cal X.prog X.w X.K X.mg X.base x k φ)(hr:zI k X.A)(hg:Gl X x)(h:EvA X α (e::es) λas=>φ as λa=>Q a.d)
  (c:(x == ("__debug__":Str))=false:=by decide) (he:starEach (e::es) X.env=(false,eval e X.env)::starEach es X.env:=by rfl) (hpl:(backTo pos (starEach es X.env)).any (·.1)=false:=by rfl):EvD X α (.Call (.Name x p) (e::es) [] pos) Q:=by
 obtain⟨f,fd,ps,i,g,j,l⟩:=C.ex;exact ba l hr hg i g j h c he hpl
theorem xA {Q:List PyData->Prop}(C:Cal X.prog X.w X.K X.mg X.base x k φ)(hr:zI k X.A)(hg:Gl X x)(h:EvA X α (e::es) λas=>φ as λa=>∃ds,a=.own ds/\Q ds)
  (c:(x == ("__debug__":Str))=false:=by decide) (he:starEach (e::es) X.env=(false,eval e X.env)::starEach es X.env:=by rfl) (hpl:(backTo pos (starEach es X.env)).any (·.1)=false:=by rfl):EvL X α (.Call (.Name x p) (e::es) [] pos) Q:=by
 obtain⟨f,fd,ps,g,d,i,j⟩:=C.ex;exact bL j hr hg g d i h c he hpl
end
section
variable {P:Program}{w:World}{K:PySem.W.Frag}{mg:Str->Option Value}{base:Heap}
theorem zH1 {x qual:Str}{st:Stmt}{f:Addr}{fd:FuncData}{N ps:List Str}{k:Nat}{φ:List A->(A->Prop)->Prop}(G:Fun K x qual st f fd)(hm:mg x=some (.ref f))(hb:Binds K fd ps [])(S:zT N ps (zf st))(hlen:∀as Q,φ as Q->as.length=ps.length)
  (a:∀(cdv:Value) (b:Around) (outer:List Env) (s:Shared) (H:Hp) (E:XK) (as:List A) (Q:A->Prop),zI k (b.deeper (envOfC qual (zf st) s.heap.objs.size f cdv))->φ as Q->
   SvS (wq CX0 P w K mg base N qual (zf st) f cdv b outer s H E).nox (as.map some++List.replicate (N.length-as.length) none) (zw st) {nx:=λ_=>Q (.dat .none),rt:=Q}):Cal P w K mg base x (k+1) φ:=
 ⟨f,fd,ps,hm,G.kp,hb,fnA G S hlen a⟩
theorem Cal.imp {x:Str}{k:Nat}{φ i:List A->(A->Prop)->Prop}(C:Cal P w K mg base x k φ)(h:∀as Q,i as Q->φ as Q):Cal P w K mg base x k i:=by
 obtain⟨f,fd,ps,n,m,o,p⟩:=C.ex;exact⟨f,fd,ps,n,m,o,p.imp λvs H Q E j=>by obtain⟨F,as,l,a,b,c,d,e,g⟩:=j;exact⟨F,as,l,a,b,c,d,h _ _ e,g⟩⟩
def xP :List A->(A->Prop)->Prop:=λas Q=>∃n:Int,as=[.tape,.dat (.int n)]/\0<n/\n<big/\∀v,0<=v->v<n->Q (.dat (.int v))
end
section
variable {Y:Addr->Shared->Hp->List Addr->Cx}{pat:Pat}{ifs:List Expr}{elt:Expr}{α0:Ev}
theorem wQ {ds acc:List PyData}{Q:List PyData->Prop}(P:Nat->List PyData->Prop)(h0:P 0 acc)
  (j:∀i d acc,ds[i]?=some d->P i acc->∃a,pat.bind d α0=some a/\∀C s2 f fp,jJ (Y C s2 f fp) a ifs λk=>if k=true then ∀C s2 f fp,EvD (Y C s2 f fp) a elt λy=>P (i+1) (acc++[y])else P (i+1) acc)
  (hd:∀acc,P ds.length acc->Q acc):yY Y pat ifs elt α0 ds acc Q:=by
 have key:∀n i acc,n=ds.length-i->i<=ds.length->P i acc->yY Y pat ifs elt α0 (ds.drop i) acc Q:=by
  intro n
  induction n with
  |zero=>
   intro i acc hn hi p;have e:i=ds.length:=(om5 hn hi);subst e;rw[zR6];exact hd acc p
  |succ n g=>
   intro i acc hn hi p;have c:i<ds.length:=(om6 hn);rw[zM4 c];obtain⟨a,e,b⟩:=j i ds[i] acc (zI7 c) p;refine⟨a,e,λC s2 f fp F σ H R m h=>b C s2 f fp F σ H R m λk H' q=>h k H' ?_⟩;cases k with
   |true=>
    rw[if_pos rfl]at q ⊢;exact λC s2 f fp=>(q C s2 f fp).imp λy p=>g (i+1) _ (om7 hn) c p
   |false=>
    rw[if_neg (by decide)]at q ⊢;exact g (i+1) _ (om7 hn) c q
 exact key _ 0 acc rfl (zJ8 _) h0
theorem xQ {ds acc:List PyData}{Q:List PyData->Prop}(p:PyData->Bool)(f:PyData->PyData)
  (g:∀d∈ds,∃a,pat.bind d α0=some a/\(∀C s2 b fp (Q:Bool->Prop),Q (p d)->jJ (Y C s2 b fp) a ifs Q)/\(p d=true->∀C s2 b fp (Q:PyData->Prop),Q (f d)->EvD (Y C s2 b fp) a elt Q))
  (hd:Q (acc++(ds.filter p).map f)):yY Y pat ifs elt α0 ds acc Q:=by
 induction ds generalizing acc with
 |nil=>
  show Q acc;simpa using hd
 |cons d ds j=>
  obtain⟨a,e,h,i⟩:=g d zJ6;refine⟨a,e,λC s2 b fp=>h C s2 b fp _ ?_⟩;have c:=λacc=>j (acc:=acc) λd hd=>g d (zJ2 _ hd);cases hp:p d with
  |true=>
   rw[if_pos rfl];refine λC s2 b fp=>i hp C s2 b fp _ (c _ ?_);simpa[zW4,hp]using hd
  |false=>
   rw[if_neg (by decide)];refine c _ ?_;simpa[zW4,hp]using hd
end
theorem zh2 {ds:List PyData}{v:Int}(h0:0<=v)(b:v<ds.length):∃d,d∈ds/\atI ds v=some d:=by
 obtain⟨j,rfl⟩:=z05 h0;have a:j<ds.length:=(om9 b);exact⟨ds[j],zT1 a,wR (zI7 a)⟩
theorem mI (st:Stmt)(env:Env):execs [st] env=exec st env:=by
 rw[PySem.execs_cons];have:(λf:Flow=>(match f with|.next=>execs [] env|f=>pure f:Sem Flow))=pure:=by
  funext f
  cases f<;>rfl
 exact(congrArg (λg=>exec st env >>= g) this).trans (bind_pure _)
section
variable {X:Cx}{α:Ev}{e a b c:Expr}{es rest:List Expr}{pos p:Pos}{Q:PyData->Prop}{E:yo}{st:Stmt}{sts sts':List Stmt}
theorem uE (P:Ev->Prop)(i:SvS X α [st] {E with nx:=P})(j:∀d,P d->SvS X d sts E):SvS X α (st::sts) E:=λF σ H D m r=>by
 refine tF (λf H'=>∃d,M F d f H'/\P d) ?_ ?_
 ·obtain⟨t,p,q⟩:=i F σ H {D with nx:=λf H'=>∃d,M F d f H'/\P d} m ⟨λd f H' g z=>⟨d,g,z⟩,r.rt,r.bk,r.ct⟩;exact⟨t,λpins s σ H D I h=>(by
   have:=p pins s σ H D I h;rw[mI]at this;exact this),q⟩
 ·rintro f H' ⟨d,g,z⟩;exact j d z F f H' D g r
theorem gJ {c:Prop}[Decidable c]{a b:List Stmt}(d:c->SvS X α a E)(f:¬c->SvS X α b E):SvS X α (if decide c=true then a else b) E:=by
 by_cases h:c
 ·rw[zM1 h];exact d h
 ·rw[zL2 h];exact f h
theorem xi {k:Bool}{a b:List Stmt}(d:k=true->SvS X α a E)(f:k=false->SvS X α b E):SvS X α (if k=true then a else b) E:=by
 cases k with
 |true=>exact d rfl
 |false=>exact f rfl
theorem lG {i j:Int}:Cmp rEq (.int i) (.int j) (decide (i=j)):=λp H g k R d f h=>by
 cases d.int_inv;cases f.int_inv;refine⟨rfl,?_⟩;rw[show decide (V.int i=V.int j)=decide (i=j) by simp];exact h
theorem bB {i j:Int}:Cmp rNe (.int i) (.int j) (!decide (i=j)):=λp H g k R d f h=>by
 cases d.int_inv;cases f.int_inv;refine⟨rfl,?_⟩;rw[show decide (V.int i=V.int j)=decide (i=j) by simp];exact h
theorem kh {i j:Str}:Cmp rEq (.str i) (.str j) (decide (i=j)):=λp H g k R d f h=>by
 cases d.str_inv;cases f.str_inv;refine⟨rfl,?_⟩;rw[show decide (V.str i=V.str j)=decide (i=j) by simp];exact h
theorem fg {op:CmpOp}{r:R2}(j:OpR X (compareOp op) r)(hm:behindInMarks op b=false)(h:EvD X α a λx=>EvD X α b λy=>∃k,Cmp r x y k/\Q (.bool k)):EvD X α (.Compare a [op] [b] pos) Q:=λF σ H R m k=>by
 refine⟨_,qM j zi zi hm,?_⟩;refine h F σ H _ m λx o H1 s t1 f t=>?_;have m1:=m.kz f t1;refine s F σ H1 _ m1 λy u d n v g l=>?_;obtain⟨b,i,q⟩:=n;exact i _ d o u _ (t.same (g.gz m1.tp)) l (k _ _ d q v (f.trans g) (.bl b))
theorem zm2 {Q:Bool->Prop}(h:EvD X α a λx=>EvD X α b λy=>∃i j,x=.int i/\y=.int j/\Q (decide (i=j))):EvT X α (.Compare a [.Eq] [b] pos) Q:=
 we dh (yD _) (h.imp λx h=>h.imp λy d=>by obtain⟨i,j,e1,f,q⟩:=d;exact⟨_,by subst e1 f;exact lG,q⟩)
theorem zu5 {Q:Bool->Prop}(h:EvD X α a λx=>EvD X α b λy=>∃i j,x=.str i/\y=.str j/\Q (decide (i=j))):EvT X α (.Compare a [.Eq] [b] pos) Q:=
 we dh (yD _) (h.imp λx h=>h.imp λy d=>by obtain⟨i,j,e1,f,q⟩:=d;exact⟨_,by subst e1 f;exact kh,q⟩)
theorem bh {p q:Bool}{Q:Bool->Prop}(ha:∀Q:Bool->Prop,Q p->EvT X α a Q)(hb:p=true->∀Q:Bool->Prop,Q q->EvW X α (.BoolOp .And (b::rest) pos) Q)(k:Q (p&&q)):EvW X α (.BoolOp .And (a::b::rest) pos) Q:=by
 refine lq (ha _ ?_);cases p with
 |true=>rw[if_pos rfl];exact hb rfl _ (by simpa using k)
 |false=>rw[if_neg (by decide)];simpa using k
end
structure NbT (mg:Str->Option Value):Prop where
 abs:mg "abs"=none
 list:mg "list"=none
 len:mg "len"=none
 range:mg "range"=none
 min:mg "min"=none
 max:mg "max"=none
 sorted:mg "sorted"=none
 isinstance:mg "isinstance"=none
 int:mg "int"=none
 bool:mg "bool"=none
 str:mg "str"=none
 tuple:mg "tuple"=none
 all:mg "all"=none
 any:mg "any"=none
 repr:mg "repr"=none
 zip:mg "zip"=none
 enumerate:mg "enumerate"=none
 reversed:mg "reversed"=none
 sum:mg "sum"=none
theorem vG {X:Cx}{K:PySem.W.Frag}{es:List Expr}{k:Nat}{t:TGs}{n:Nat}{pos:Pos}(c:X.K=K)(b:X.calm=true)(h:PGs X es t)
  (hn:(assignEach es X.env).length=n:=by rfl) (a:(assignEach es X.env).findIdx? (·.1)=none:=by rfl):PG X (.Tuple es k pos) (gX K n t):=by
 subst c;exact zo8 b h hn a
end L2
namespace SortA
open PySem PySem.W PyProof.Rows
def run {α:Type}(lt:Nat->Nat->Bool):KasT α->α
 |.ret a=>a
 |.ask i j k=>run lt (k (lt i j))
theorem run_bind {α β:Type}(lt:Nat->Nat->Bool)(f:α->KasT β):∀t:KasT α,run lt (t.bind f)=run lt (f (run lt t))
 |.ret _=>rfl
 |.ask i j k=>run_bind lt f (k (lt i j))
structure Ord (lt:Nat->Nat->Bool):Prop where
 irr:∀a,lt a a=false
 tr:∀a b c,lt b a=false->lt c b=false->lt c a=false
 asy:∀a b,lt a b=true->lt b a=false
abbrev g (p:Array Nat)(i:Nat):Nat:=p.getD i 0
def Up (lt:Nat->Nat->Bool)(p:Array Nat)(m:Nat):Prop:=∀i j,i<=j->j<m->lt (g p j) (g p i)=false
def Down (lt:Nat->Nat->Bool)(p:Array Nat)(m:Nat):Prop:=∀i j,i<=j->j<m->lt (g p i) (g p j)=false
theorem eM {p q:Array Nat}{i j:Nat}(h:p[i]?=q[j]?):g p i=g q j:=by
 unfold g;rw[Array.getD_eq_getD_getElem?,Array.getD_eq_getD_getElem?,h]
variable {lt:Nat->Nat->Bool}
theorem Up.succ (O:Ord lt){p:Array Nat}{m:Nat}(h:Up lt p m)(hm:0<m)(e:lt (g p m) (g p (m-1))=false):Up lt p (m+1):=λi j a d=>by
 by_cases e1:j<m
 ·exact h i j a e1
 ·have c:j=m:=(zS5 (zS4 d) (zT0 e1));subst c;by_cases b:i=j
  ·subst b;exact O.irr _
  ·exact O.tr _ _ _ (h i (j-1) (zi7 a b) (oo hm)) e
theorem Down.succ (O:Ord lt){p:Array Nat}{m:Nat}(h:Down lt p m)(hm:0<m)(e:lt (g p (m-1)) (g p m)=false):Down lt p (m+1):=λi j a d=>by
 by_cases e1:j<m
 ·exact h i j a e1
 ·have c:j=m:=(zS5 (zS4 d) (zT0 e1));subst c;by_cases b:i=j
  ·subst b;exact O.irr _
  ·exact O.tr _ _ _ e (h i (j-1) (zi7 a b) (oo hm))
theorem zn5 (O:Ord lt)(p:Array Nat):Up lt p 1:=λi j a b=>by
 have e1:i=0:=(zj5 b a);have c:j=0:=(ze7 b);rw[e1,c];exact O.irr _
theorem uA (O:Ord lt)(p:Array Nat):∀(f n:Nat),0<n->Up lt p n->n<=run lt (kas_asc p f n)/\run lt (kas_asc p f n)<=n+f/\Up lt p (run lt (kas_asc p f n))/\
  (run lt (kas_asc p f n)<n+f->lt (g p (run lt (kas_asc p f n))) (g p (run lt (kas_asc p f n)-1))=true)
 |0,n,_,h=>⟨zJ0 _,zJ0 _,h,λz=>absurd z (zO2 _)⟩
 |f+1,n,hn,h=>by
  show n<=run lt ((λc=>if c=true then KasT.ret n else kas_asc p f (n+1)) (lt (p.getD n 0) (p.getD (n-1) 0)))/\_;cases e:lt (p.getD n 0) (p.getD (n-1) 0)with
  |true=>
   have i:run lt (kas_asc p (f+1) n)=n:=by
    show run lt ((λc=>if c=true then KasT.ret n else kas_asc p f (n+1)) (lt (p.getD n 0) (p.getD (n-1) 0)))=n;rw[e];rfl
   rw[i];exact⟨zJ0 _,(zL0 _ _),h,λ_=>e⟩
  |false=>
   have i:run lt (kas_asc p (f+1) n)=run lt (kas_asc p f (n+1)):=by
    show run lt ((λc=>if c=true then KasT.ret n else kas_asc p f (n+1)) (lt (p.getD n 0) (p.getD (n-1) 0)))=_;rw[e];rfl
   rw[i];obtain⟨a,b,c,d⟩:=uA O p f (n+1) (z00 _) (h.succ O hn e);exact⟨by show n<=run lt (kas_asc p f (n+1));exact zK1 (zL0 _ _) a,(kT b),c,λz=>d (by lia)⟩
theorem uT {p:Array Nat}{i j:Nat}(a:j<=p.size)(k:Nat):g (kas_rev p i j) k=if i<=k/\k<j then g p (i+j-1-k)else g p k:=by
 have h:=getElem?_mirror_all (xs:=p) (i:=i) a k;split
 ·rename_i c;rw[if_pos c]at h;exact eM h
 ·rename_i c;rw[if_neg c]at h;exact eM h
theorem xp (p:Array Nat)(i j:Nat):(kas_rev p i j).size=p.size:=mirror_size _ _ _ _
theorem yB (p:Array Nat)(i j:Nat):(kas_rev p i j).Perm p:=mirror_perm _ _ _ _
def Eqv (lt:Nat->Nat->Bool)(a b:Nat):Prop:=lt a b=false/\lt b a=false
theorem Down.eqv (O:Ord lt){p q:Array Nat}{n:Nat}(h:Down lt p n)(e:∀k,k<n->Eqv lt (g q k) (g p k)):Down lt q n:=λi j a b=>
 O.tr _ _ _ (O.tr _ _ _ (e j b).2 (h i j a b)) (e i (zK9 a b)).1
def Last (lt:Nat->Nat->Bool)(p:Array Nat)(n q:Nat):Prop:=∀a b,n<=a+(q+1)->a<n->n<=b+(q+1)->b<n->lt (g p a) (g p b)=false
theorem rev_last (O:Ord lt){p:Array Nat}{n q:Nat}(hn:n<=p.size)(hq:q<n)(L:Last lt p n q):∀k,k<n->Eqv lt (g (kas_rev p (n-(q+1)) n) k) (g p k):=λk hk=>by
 rw[uT hn];split
 ·rename_i c;exact⟨L _ _ (zh1 hk) (zi6 c.2 c.1) (zg6 c.1) hk,L _ _ (zg6 c.1) hk (zh1 hk) (zi6 c.2 c.1)⟩
 ·exact⟨O.irr _,O.irr _⟩
theorem tG (O:Ord lt):∀(f:Nat) (p:Array Nat) (n q:Nat),q<n->n+f<=p.size->Down lt p n->Last lt p n q->
  ∃i m j,run lt (kas_desc f p n q)=(i,m,j)/\n<=m/\m<=n+f/\i.size=p.size/\i.Perm p/\j<m/\Down lt i m/\Last lt i m j
 |0,p,n,q,hq,s,h,L=>⟨p,n,q,rfl,zJ0 _,zJ0 _,rfl,zS6 _,hq,h,L⟩
 |f+1,p,n,q,hq,s,h,L=>by
  cases e:lt (p.getD n 0) (p.getD (n-1) 0)with
  |true=>
   by_cases z:q > 0
   ·have l:run lt (kas_desc (f+1) p n q)=run lt (kas_desc f (kas_rev p (n-(q+1)) n) (n+1) 0):=by
     show run lt ((λc=>if c=true then(if q > 0 then kas_desc f (kas_rev p (n-(q+1)) n) (n+1) 0 else kas_desc f p (n+1) 0)
      else .ask (p.getD (n-1) 0) (p.getD n 0) λd=>if d=true then .ret (p,n,q)else kas_desc f p (n+1) (q+1)) (lt (p.getD n 0) (p.getD (n-1) 0)))=_
     rw[e];show run lt (if q > 0 then _ else _)=_;rw[if_pos z]
    have ev:=rev_last O ((zK1 (zL0 _ _) s):n<=p.size) hq L;have r:=h.eqv O ev;have hn:g (kas_rev p (n-(q+1)) n) n=g p n:=by rw[uT (zK1 (zL0 _ _) s),if_neg (ze9)]
    have o:Down lt (kas_rev p (n-(q+1)) n) (n+1):=r.succ O (zK9 (zJ8 _) hq) (by
     rw[hn];exact O.tr _ _ _ (O.asy _ _ e) (ev (n-1) (oo hq)).1)
    obtain⟨i,m,j,a,b,c,x,v,t,u,y⟩:=tG O f (kas_rev p (n-(q+1)) n) (n+1) 0 (z00 _) (by rw[xp];exact ku s) o (λa b r o w A=>by
     have e1:a=n:=(rX r o);have k:b=n:=(rX w A);rw[e1,k];exact O.irr _)
    exact⟨i,m,j,l.trans a,(zK1 (zL0 _ _) b),(kT c),by rw[x,xp],v.trans (yB _ _ _),t,u,y⟩
   ·have l:run lt (kas_desc (f+1) p n q)=run lt (kas_desc f p (n+1) 0):=by
     show run lt ((λc=>if c=true then(if q > 0 then kas_desc f (kas_rev p (n-(q+1)) n) (n+1) 0 else kas_desc f p (n+1) 0)
      else .ask (p.getD (n-1) 0) (p.getD n 0) λd=>if d=true then .ret (p,n,q)else kas_desc f p (n+1) (q+1)) (lt (p.getD n 0) (p.getD (n-1) 0)))=_
     rw[e];show run lt (if q > 0 then _ else _)=_;rw[if_neg z]
    obtain⟨i,m,j,a,b,c,x,v,t,u,y⟩:=tG O f p (n+1) 0 (z00 _) (ku s) (h.succ O (zK9 (zJ8 _) hq) (O.asy _ _ e)) (λa b r o w A=>by
     have e1:a=n:=(rX r o);have k:b=n:=(rX w A);rw[e1,k];exact O.irr _)
    exact⟨i,m,j,l.trans a,(zK1 (zL0 _ _) b),(kT c),x,v,t,u,y⟩
  |false=>
   cases k:lt (p.getD (n-1) 0) (p.getD n 0)with
   |true=>
    have l:run lt (kas_desc (f+1) p n q)=(p,n,q):=by
     show run lt ((λc=>if c=true then(if q > 0 then kas_desc f (kas_rev p (n-(q+1)) n) (n+1) 0 else kas_desc f p (n+1) 0)
      else .ask (p.getD (n-1) 0) (p.getD n 0) λd=>if d=true then .ret (p,n,q)else kas_desc f p (n+1) (q+1)) (lt (p.getD n 0) (p.getD (n-1) 0)))=_
     rw[e];show run lt ((λd=>if d=true then KasT.ret (p,n,q)else kas_desc f p (n+1) (q+1)) (lt (p.getD (n-1) 0) (p.getD n 0)))=_;rw[k];rfl
    exact⟨p,n,q,l,zJ0 _,(zL0 _ _),rfl,zS6 _,hq,h,L⟩
   |false=>
    have l:run lt (kas_desc (f+1) p n q)=run lt (kas_desc f p (n+1) (q+1)):=by
     show run lt ((λc=>if c=true then(if q > 0 then kas_desc f (kas_rev p (n-(q+1)) n) (n+1) 0 else kas_desc f p (n+1) 0)
      else .ask (p.getD (n-1) 0) (p.getD n 0) λd=>if d=true then .ret (p,n,q)else kas_desc f p (n+1) (q+1)) (lt (p.getD n 0) (p.getD (n-1) 0)))=_
     rw[e];show run lt ((λd=>if d=true then KasT.ret (p,n,q)else kas_desc f p (n+1) (q+1)) (lt (p.getD (n-1) 0) (p.getD n 0)))=_;rw[k];rfl
    have E:Last lt p (n+1) (q+1):=λa b r o w A=>by
     have two:∀a,n+1<=a+(q+1+1)->a<n+1->Eqv lt (g p a) (g p (n-1)):=λa C D=>by
      by_cases B:a=n
      ·rw[B];exact⟨e,k⟩
      ·exact⟨L a (n-1) (zg8 C) (dE D B) (zd0) (oo hq),L (n-1) a (zd0) (oo hq) (zg8 C) (dE D B)⟩
     exact O.tr _ _ _ (two b w A).2 (two a r o).1
    obtain⟨i,m,j,a,b,c,x,v,t,u,y⟩:=tG O f p (n+1) (q+1) (Nat.add_lt_add_right hq _) (ku s) (h.succ O (zK9 (zJ8 _) hq) k) E;exact⟨i,m,j,l.trans a,(zK1 (zL0 _ _) b),(kT c),x,v,t,u,y⟩
theorem zs4 {p:Array Nat}{n:Nat}(hn:n<=p.size)(h:Down lt p n):Up lt (kas_rev p 0 n) n:=λi j a b=>by
 rw[uT hn,uT hn,if_pos (⟨(zJ8 _),b⟩),if_pos (⟨(zJ8 _),(zK9 a b)⟩)];exact h _ _ (by lia) (zd9 b)
theorem nv (O:Ord lt){p:Array Nat}{n nrem:Nat}(h0:0<n)(hn:n<=nrem)(e:nrem<=p.size)(h:Down lt p n):
  ∃d m,run lt (kas_tail3 n nrem p)=(m,d)/\1<=m/\m<=nrem/\d.size=p.size/\d.Perm p/\Up lt d m:=by
 obtain⟨a,b,c,_⟩:=uA O (kas_rev p 0 n) (nrem-n) n h0 (zs4 (zK1 hn e) h);refine⟨kas_rev p 0 n,run lt (kas_asc (kas_rev p 0 n) (nrem-n) n),?_,by lia,(gf b hn),xp _ _ _,yB _ _ _,c⟩;unfold kas_tail3;rw[run_bind];rfl
theorem uP (O:Ord lt){p:Array Nat}{n nrem:Nat}(h0:0<n)(hn:n+1<=nrem)(s:nrem<=p.size)(h:Down lt p (n+1)):
  ∃c m,run lt (kas_descPart n nrem p)=(m,c)/\1<=m/\m<=nrem/\c.size=p.size/\c.Perm p/\Up lt c m:=by
 obtain⟨p1,m1,x,e,a1,a2,d,r,g,q,t⟩:=tG O (nrem-(n+1)) p (n+1) 0 (z00 _) (by lia) h (λa b u v w z=>by
  have e1:a=n:=(rX u v);have y:b=n:=(rX w z);rw[e1,y];exact O.irr _)
 unfold kas_descPart;rw[run_bind,e];dsimp only;split
 ·obtain⟨c,m,i,o,j,l,k,f⟩:=nv O (p:=kas_rev p1 (m1-(x+1)) m1) (n:=m1) (nrem:=nrem) (zK9 (zJ8 _) g) (gf a2 hn) (by rw[xp];exact zK1 s (zL7 d.symm)) (q.eqv O (rev_last O (by lia) g t));exact⟨c,m,i,o,j,by rw[l,xp,d],(k.trans (yB _ _ _)).trans r,f⟩
 ·obtain⟨c,m,i,o,j,l,k,f⟩:=nv O (p:=p1) (n:=m1) (nrem:=nrem) (zK9 (zJ8 _) g) (gf a2 hn) (zK1 s (zL7 d.symm)) q;exact⟨c,m,i,o,j,by rw[l,d],k.trans r,f⟩
theorem gK (O:Ord lt){p:Array Nat}{nrem:Nat}(h0:0<nrem)(o:nrem<=p.size):
  ∃q m,run lt (kas_count nrem p)=(m,q)/\1<=m/\m<=nrem/\q.size=p.size/\q.Perm p/\Up lt q m:=by
 obtain⟨a,b,c,d⟩:=uA O p (nrem-1) 1 (by decide) (zn5 O p);unfold kas_count;rw[run_bind];generalize run lt (kas_asc p (nrem-1) 1)=n at a b c d;by_cases r:n=nrem
 ·rw[if_pos (by rw[r];simp)];exact⟨p,n,rfl,a,(zL7 r),rfl,zS6 _,c⟩
 ·rw[if_neg (by simpa using r)];have hd:=d (by lia);by_cases f:n > 1
  ·rw[if_pos f];cases e:lt (p.getD 0 0) (p.getD (n-1) 0)with
   |true=>
    refine⟨p,n,?_,a,by lia,rfl,zS6 _,c⟩;show run lt ((λc=>if c=true then KasT.ret (n,p)else kas_descPart n nrem (kas_rev p 0 n)) (lt (p.getD 0 0) (p.getD (n-1) 0)))=_;rw[e];rfl
   |false=>
    have all:∀k,k<n->Eqv lt (g p k) (g p 0):=λk hk=>⟨c 0 k (zJ8 _) hk,O.tr _ _ _ (c k (n-1) (zi3 hk) (zd6 f)) e⟩;have y:Down lt (kas_rev p 0 n) (n+1):=by
     have u:Down lt (kas_rev p 0 n) n:=λi j h l=>by
      rw[uT (lJ h0 o b),uT (lJ h0 o b),if_pos (⟨(zJ8 _),(zK9 h l)⟩),if_pos (⟨(zJ8 _),l⟩)];exact O.tr _ _ _ (all _ (by lia)).2 (all _ (zd9 l)).1
     refine u.succ O (zK9 (zJ8 _) f) ?_;rw[uT (lJ h0 o b),uT (lJ h0 o b),if_pos (by lia),if_neg (ze9)];have t:lt (g p (n-1)) (g p n)=false:=O.asy _ _ hd;exact O.tr _ _ _ t (O.tr _ _ _ (all (n-1) (zd6 f)).2 (all _ (by lia)).1)
    obtain⟨q,m,B,C,v,A,z,s⟩:=uP O (p:=kas_rev p 0 n) (n:=n) (nrem:=nrem) (zK9 (zJ8 _) f) (by lia) (by rw[xp];exact o) y;refine⟨q,m,?_,C,v,by rw[A,xp],z.trans (yB _ _ _),s⟩;rw[<-B];show run lt ((λc=>if c=true then KasT.ret (n,p)else kas_descPart n nrem (kas_rev p 0 n)) (lt (p.getD 0 0) (p.getD (n-1) 0)))=_;rw[e];rfl
  ·rw[if_neg f];have e1:n=1:=(zS5 (zT0 f) a);subst e1;refine uP O (by decide) (by lia) o ?_;have w:Down lt p 1:=λi j h l=>by
    have e1:i=0:=(zj5 l h);have x:j=0:=(ze7 l);rw[e1,x];exact O.irr _
   exact w.succ O (by decide) (O.asy _ _ hd)
theorem sR (O:Ord lt){p:Array Nat}{k:Nat}(U:Up lt p k):∀(f l r:Nat),r<=l+f->l<=r->r<=k->(∀i,i<l->lt (g p k) (g p i)=false)->(∀i,r<=i->i<k->lt (g p k) (g p i)=true)->
  run lt (kas_place p k f l r)<=k/\(∀i,i<run lt (kas_place p k f l r)->lt (g p k) (g p i)=false)/\(∀i,run lt (kas_place p k f l r)<=i->i<k->lt (g p k) (g p i)=true)
 |0,l,r,m,h,d,ha,hb=>by
  show l<=k/\_;exact⟨(zK1 h d),ha,λi x y=>hb i (by have:l<=i:=x;lia) y⟩
 |f+1,l,r,m,h,d,ha,hb=>by
  by_cases a:l≥r
  ·have b:run lt (kas_place p k (f+1) l r)=l:=by
    show run lt (if l≥r then _ else _)=_;rw[if_pos a];rfl
   rw[b];exact⟨(zK1 h d),ha,λi x y=>hb i (zK1 a x) y⟩
  ·cases e:lt (p.getD k 0) (p.getD ((l+r) / 2) 0)with
   |true=>
    have b:run lt (kas_place p k (f+1) l r)=run lt (kas_place p k f l ((l+r) / 2)):=by
     show run lt (if l≥r then _ else _)=_;rw[if_neg a];show run lt ((λc=>if c=true then kas_place p k f l ((l+r) / 2)else kas_place p k f ((l+r) / 2+1) r) (lt (p.getD k 0) (p.getD ((l+r) / 2) 0)))=_;rw[e];rfl
    rw[b];refine sR O U f l ((l+r) / 2) (by lia) (by lia) (by lia) ha λi x y=>?_;cases e3:lt (g p k) (g p i)with
    |true=>rfl
    |false=>
     have n:lt (g p k) (g p ((l+r) / 2))=false:=O.tr _ _ _ (U ((l+r) / 2) i x y) e3;have j:lt (g p k) (g p ((l+r) / 2))=true:=e;rw[n]at j;cases j
   |false=>
    have b:run lt (kas_place p k (f+1) l r)=run lt (kas_place p k f ((l+r) / 2+1) r):=by
     show run lt (if l≥r then _ else _)=_;rw[if_neg a];show run lt ((λc=>if c=true then kas_place p k f l ((l+r) / 2)else kas_place p k f ((l+r) / 2+1) r) (lt (p.getD k 0) (p.getD ((l+r) / 2) 0)))=_;rw[e];rfl
    rw[b];exact sR O U f ((l+r) / 2+1) r (by lia) (by lia) d (λi hi=>O.tr _ _ _ (U i ((l+r) / 2) (zS4 hi) (by lia)) e) hb
theorem iu (O:Ord lt){p:Array Nat}{k l:Nat}(hk:k<p.size)(m:l<=k)(U:Up lt p k)(ha:∀i,i<l->lt (g p k) (g p i)=false)(hb:∀i,l<=i->i<k->lt (g p k) (g p i)=true):Up lt (bubble p k (k-l)) (k+1):=by
 have gb:∀i,g (bubble p k (k-l)) i=if i=l then g p k else if l<i/\i<=k then g p (i-1)else g p i:=λi=>by
  have h:=getElem?_bubble hk (k-l) (Nat.sub_le _ _) i;have el:k-(k-l)=l:=by lia
  rw[el]at h;by_cases c:i=l
  ·rw[if_pos c]at h ⊢;exact eM h
  ·rw[if_neg c]at h ⊢;by_cases f:l<i/\i<=k
   ·rw[if_pos f]at h ⊢;exact eM h
   ·rw[if_neg f]at h ⊢;exact eM h
 intro i j a b;have gl:g (bubble p k (k-l)) l=g p k:=by rw[gb,if_pos rfl]
 have d:∀i,l<i->i<=k->g (bubble p k (k-l)) i=g p (i-1):=λi x y=>by rw[gb,if_neg (zT6 x),if_pos ⟨x,y⟩]
 have e:∀i,i<l->g (bubble p k (k-l)) i=g p i:=λi x=>by rw[gb,if_neg (zK2 x),if_neg (by lia)]
 rcases Nat.lt_trichotomy i l with hi|hi|hi
 ·rw[e i hi];rcases Nat.lt_trichotomy j l with h|h|h
  ·rw[e j h];exact U _ _ (a) (zI9 h m)
  ·rw[h,gl];exact ha i hi
  ·rw[d j h (zS4 b)];exact U _ _ (by lia) (zf9 b h)
 ·rw[hi,gl];rcases Nat.lt_trichotomy j l with h|h|h
  ·exact(zO2 _ (zI9 h (zK1 (zL7 hi.symm) a))).elim
  ·rw[h,gl];exact O.irr _
  ·rw[d j h (zS4 b)];exact O.asy _ _ (hb (j-1) (zi3 h) (zf9 b h))
 ·rw[d i hi (zS4 (zK9 a b)),d j (zI9 hi a) (zS4 b)];exact U _ _ (by lia) (by lia)
theorem dQ (O:Ord lt):∀(f:Nat) (p:Array Nat) (k:Nat),0<k->k+f<=p.size->Up lt p k->(run lt (kas_bin f p k)).size=p.size/\(run lt (kas_bin f p k)).Perm p/\Up lt (run lt (kas_bin f p k)) (k+f)
 |0,p,k,_,_,U=>⟨rfl,zS6 _,U⟩
 |f+1,p,k,hk,hs,U=>by
  obtain⟨a,b,c⟩:=sR O U k 0 k (Nat.le_add_left _ _) (zJ8 _) (zJ0 _) (λi hi=>(zO2 _ (zK9 (zJ8 _) hi)).elim) (λi x y=>(zO2 _ (zI9 y x)).elim);have d:run lt (kas_bin (f+1) p k)=run lt (kas_bin f (bubble p k (k-run lt (kas_place p k k 0 k))) (k+1)):=by
   show run lt ((kas_place p k k 0 k).bind _)=_;rw[run_bind]
  rw[d];obtain⟨x,y,z⟩:=dQ O f (bubble p k (k-run lt (kas_place p k k 0 k))) (k+1) (z00 _) (by rw[bubble_size];exact ku hs) (iu O (by lia) a U b c);have e:k+(f+1)=k+1+f:=zy1;rw[e];exact⟨by rw[x,bubble_size],y.trans (bubble_perm _ _ _),z⟩
theorem aX (O:Ord lt){n:Nat}(h:0<n):(run lt (kas_sort n)).size=n/\(run lt (kas_sort n)).Perm (List.range n).toArray/\Up lt (run lt (kas_sort n)) n:=by
 obtain⟨p,m,e,a,b,c,d,u⟩:=gK O (p:=(List.range n).toArray) (nrem:=n) h (by simp);unfold kas_sort;rw[run_bind,e];dsimp only;have f:p.size=n:=by rw[c];simp
 by_cases hm:m<n
 ·rw[if_pos hm];have em:max m 1=m:=by lia
  rw[em];obtain⟨x,y,z⟩:=dQ O (n-m) p m (by lia) (by lia) u;refine⟨by rw[x,f],y.trans d,?_⟩;have e:m+(n-m)=n:=by lia
  rw[e]at z;exact z
 ·rw[if_neg hm];have e:m=n:=(zS5 b (zT0 hm));subst e;exact⟨f,d,u⟩
end SortA
namespace SortA
open PySem PySem.W PyProof.Rows
def xr {α:Type}(n:Nat)(P:α->Prop):KasT α->Prop
 |.ret a=>P a
 |.ask i j k=>i<n/\j<n/\∀b,xr n P (k b)
theorem xr.bind {α β:Type}{n:Nat}{P:α->Prop}{d:β->Prop}{f:α->KasT β}(e:∀a,P a->xr n d (f a)):∀t:KasT α,xr n P t->xr n d (t.bind f)
 |.ret a,h=>e a h
 |.ask i j k,⟨a,b,c⟩=>⟨a,b,λx=>xr.bind e (k x) (c x)⟩
def Bd (n:Nat)(p:Array Nat):Prop:=∀x∈p,x<n
theorem Bd.get {n:Nat}{p:Array Nat}(h:Bd n p)(hn:0<n)(i:Nat):p.getD i 0<n:=by
 by_cases hi:i<p.size
 ·have e:p.getD i 0=p[i]:=by simp[Array.getD,hi]
  rw[e];exact h _ (Array.getElem_mem hi)
 ·have e:p.getD i 0=0:=by simp[Array.getD,hi]
  rw[e];exact hn
theorem Bd.perm {n:Nat}{p q:Array Nat}(h:Bd n p)(e:q.Perm p):Bd n q:=λx a=>h x (e.mem_iff.mp a)
theorem sh {n:Nat}{p:Array Nat}(B:Bd n p)(hn:0<n):∀f k,xr n (λ_=>True) (kas_asc p f k)
 |0,_=>trivial
 |f+1,k=>⟨B.get hn _,B.get hn _,λb=>by
  cases b with
  |true=>exact trivial
  |false=>exact sh B hn f (k+1)⟩
theorem wO {n:Nat}(hn:0<n):∀f (p:Array Nat) k q,Bd n p->xr n (λr:Array Nat×Nat×Nat=>Bd n r.1) (kas_desc f p k q)
 |0,_,_,_,B=>B
 |f+1,p,k,q,B=>⟨B.get hn _,B.get hn _,λb=>by
  cases b with
  |true=>
   show xr n _ (if q > 0 then _ else _);split
   ·exact wO hn f _ _ _ (B.perm (yB _ _ _))
   ·exact wO hn f _ _ _ B
  |false=>
   refine⟨B.get hn _,B.get hn _,λb=>?_⟩;cases b with
   |true=>exact B
   |false=>exact wO hn f _ _ _ B⟩
theorem sg {n:Nat}{p:Array Nat}(B:Bd n p)(hn:0<n)(m r:Nat):xr n (λr:Nat×Array Nat=>Bd n r.2) (kas_tail3 m r p):=by
 unfold kas_tail3;refine xr.bind (P:=λ_=>True) (λa _=>?_) _ (sh (B.perm (yB _ _ _)) hn _ _);exact B.perm (yB _ _ _)
theorem vb {n:Nat}{p:Array Nat}(B:Bd n p)(hn:0<n)(m r:Nat):xr n (λr:Nat×Array Nat=>Bd n r.2) (kas_descPart m r p):=
 xr.bind (λa ha=>by
  split
  ·exact sg (Bd.perm ha (yB _ _ _)) hn _ _
  ·exact sg ha hn _ _) _ (wO hn _ _ _ _ B)
theorem mY {n:Nat}{p:Array Nat}(B:Bd n p)(hn:0<n)(r:Nat):xr n (λr:Nat×Array Nat=>Bd n r.2) (kas_count r p):=
 xr.bind (λa _=>by
  split
  ·exact B
  ·split
   ·refine⟨B.get hn _,B.get hn _,λb=>?_⟩;cases b with
    |true=>exact B
    |false=>exact vb (B.perm (yB _ _ _)) hn _ _
   ·exact vb B hn _ _) _ (sh B hn _ _)
theorem vv {n:Nat}{p:Array Nat}(B:Bd n p)(hn:0<n)(k:Nat):∀f l r,xr n (λ_=>True) (kas_place p k f l r)
 |0,_,_=>trivial
 |f+1,l,r=>by
  show xr n _ (if l≥r then _ else _);split
  ·exact trivial
  ·refine⟨B.get hn _,B.get hn _,λb=>?_⟩;cases b with
   |true=>exact vv B hn k f _ _
   |false=>exact vv B hn k f _ _
theorem pO {n:Nat}(hn:0<n):∀f (p:Array Nat) k,Bd n p->xr n (λ_=>True) (kas_bin f p k)
 |0,_,_,_=>trivial
 |f+1,p,k,B=>xr.bind (λl _=>pO hn f _ _ (B.perm (bubble_perm _ _ _))) _ (vv B hn k _ _ _)
theorem jY {n:Nat}(hn:0<n):xr n (λ_=>True) (kas_sort n):=
 xr.bind (λa ha=>by
  split
  ·exact pO hn _ _ _ ha
  ·exact trivial) _ (mY (λx b=>by simpa using b) hn n)
theorem wp_run {α:Type}{n:Nat}{P:α->Prop}{cmp:Nat->Nat->(Bool->Shared->Prop)->Shared->Prop}{lt:Nat->Nat->Bool}{Q:α->Shared->Prop}{s:Shared}(d:∀i j C,i<n->j<n->C (lt i j) s->cmp i j C s):
  ∀t:KasT α,xr n P t->Q (run lt t) s->t.kasWp cmp Q s
 |.ret _,_,h=>h
 |.ask i j k,⟨a,b,c⟩,h=>d i j _ a b (wp_run d (k (lt i j)) (c _) h)
def lx (p q:Int×Int):Bool:=decide (p.1<q.1\/(p.1=q.1/\p.2<q.2))
def at2 (ps:List (Int×Int))(i:Nat):Int×Int:=ps.getD i (0,0)
theorem zn6 (ps:List (Int×Int)):Ord λi j=>lx (at2 ps i) (at2 ps j) where
 irr:=λa=>by simp[lx]
 tr:=λa b c=>by
  unfold lx;generalize at2 ps a=x;generalize at2 ps b=y;generalize at2 ps c=z;simp only[zS1]
  lia
 asy:=λa b=>by
  unfold lx;generalize at2 ps a=x;generalize at2 ps b=y;simp only[zS1,zS3]
  lia
theorem nO (ps:List (Int×Int))(h:0<ps.length):∃d:List Nat,run (λi j=>lx (at2 ps i) (at2 ps j)) (kas_sort ps.length)=d.toArray/\d.length=ps.length/\(∀i∈d,i<ps.length)/\(d.map (at2 ps)).Perm ps/\(d.map (at2 ps)).Pairwise (λp q=>lx q p=false):=by
 obtain⟨a,b,c⟩:=aX (zn6 ps) h;generalize run (λi j=>lx (at2 ps i) (at2 ps j)) (kas_sort ps.length)=r at a b c;have e:(List.range ps.length).map (at2 ps)=ps:=by
  apply List.ext_getElem
  ·simp
  ·intro i f n;simp[at2,n]
 have pl:r.toList.Perm (List.range ps.length):=by
  have:=zY7.mp b;simpa using this
 refine⟨r.toList,by simp,by simpa using a,λi hi=>by simpa using pl.mem_iff.mp hi,?_,?_⟩
 ·have:=pl.map (at2 ps);rw[e]at this;exact this
 ·rw[List.pairwise_map,zR0];intro i j hi o k;have f:j<r.size:=by simpa using o
  have:=c i j (zN6 k) (by rw[<-a];exact f);have m:g r i=r.toList[i]:=by
   have:i<r.size:=by lia
   simp[g,Array.getD,this]
  have l:g r j=r.toList[j]:=by simp[g,Array.getD,f]
  rw[m,l]at this;exact this
end SortA
namespace L2
open PySem PySem.Spec PySem.Calls PySem.W PyProof.Rows SortA
section
variable {prog:Program}{w:World}{A:Around}{E:Value->Shared->Prop}{s:Shared}
def Prs (h:Heap):List Value->List (Int×Int)->Prop
 |[],[]=>True
 |v::vs,p::ps=>(∃a o t u n,v=.ref a/\h.get? a=some o/\o.cls=.type "tuple"/\o.data=.seq #[.int p.1 t,.int p.2 u] n)/\Prs h vs ps
 |_,_=>False
theorem Prs.len {h:Heap}:∀{vs:List Value}{ps:List (Int×Int)},Prs h vs ps->vs.length=ps.length
 |[],[],_=>rfl
 |[],_::_,h=>h.elim
 |_::_,[],h=>h.elim
 |_::_,_::_,⟨_,h⟩=>by simp[Prs.len h]
theorem Prs.at {h:Heap}:∀{vs:List Value}{ps:List (Int×Int)} (i:Nat),Prs h vs ps->i<ps.length->∃a o t u n,vs.getD i Value.none=.ref a/\h.get? a=some o/\o.cls=.type "tuple"/\o.data=.seq #[.int (at2 ps i).1 t,.int (at2 ps i).2 u] n
 |[],[],_,_,hi=>by simp at hi
 |[],_::_,_,h,_=>h.elim
 |_::_,[],_,h,_=>h.elim
 |_::_,_::_,0,⟨x,_⟩,_=>x
 |_::_,_::_,i+1,⟨_,r⟩,hi=>by
  obtain⟨a,o,t,u,n,e,q⟩:=Prs.at i r (by simpa using hi);exact⟨a,o,t,u,n,by simpa using e,q⟩
theorem Prs.tups {h:Heap}:∀{vs:List Value}{ps:List (Int×Int)},Prs h vs ps->∃fs:List Value,KatTups h vs fs/\fs.length=ps.length/\∀v∈fs,∃i t,v=.int i t
 |[],[],_=>⟨[],trivial,rfl,λ_ h=>by simp at h⟩
 |[],_::_,h=>h.elim
 |_::_,[],h=>h.elim
 |_::_,p::_,⟨⟨a,o,t,u,n,e,d,c,hd⟩,r⟩=>by
  obtain⟨fs,x,y,z⟩:=Prs.tups r;subst e;refine⟨.int p.1 t::fs,KatTups.cons d c hd (by simp) x,by simp[y],λv b=>?_⟩;rcases zJ1.mp b with rfl|b
  ·exact⟨_,_,rfl⟩
  ·exact z v b
theorem cD {a b:Addr}{f ob:Obj}{p q:Int×Int}{t u t' i:Tok}{n k:Nat}{Q:Bool->Shared->Prop}(ha:s.heap.get? a=some f)(g:f.data=.seq #[.int p.1 t,.int p.2 u] n)(hb:s.heap.get? b=some ob)(db:ob.data=.seq #[.int q.1 t',.int q.2 i] k)
  (h:Q (lx p q) s):wpAny (model prog w) A (keyLt' (tuples' true) (.ref a) (.ref b)) Q E s:=by
 refine kat_lt ha g hb db (kat_cons (wpAny_eqBool_int ?_));by_cases e:p.1=q.1
 ·have e1:(p.1 == q.1)=true:=by simp[e]
  rw[e1];refine kat_yes (kat_cons (wpAny_eqBool_int ?_));by_cases d:p.2=q.2
  ·have c:(p.2 == q.2)=true:=by simp[d]
   rw[c];refine kat_yes (kat_nil ?_);have:lx p q=false:=by simp[lx,e,d]
   rw[this]at h;simpa using h
  ·have c:(p.2 == q.2)=false:=by simp[d]
   rw[c];refine kat_no (kat_one _ _ (wpAny_lt_int ?_));have:lx p q=decide (p.2<q.2):=by simp[lx,e]
   rw[this]at h;exact h
 ·have e1:(p.1 == q.1)=false:=by simp[e]
  rw[e1];refine kat_no (oneLt_int ?_);have:lx p q=decide (p.1<q.1):=by simp[lx,e]
  rw[this]at h;exact h
theorem mj {vs:List Value}{ps:List (Int×Int)}(d:2<=vs.length)(P:Prs s.heap vs ps){R:Array Nat->Shared->Prop}(hr:∀c:List Nat,c.length=ps.length->(∀i∈c,i<ps.length)->(c.map (at2 ps)).Perm ps->(c.map (at2 ps)).Pairwise (λp q=>lx q p=false)->R c.toArray s):
  wpAny (model prog w) A (keyKind' vs.toArray) (λz s'=>(kas_sort vs.length).kasWp (kas_ask prog w A z vs) R s') (λ_ _=>False) s:=by
 obtain⟨fs,t,D,hi⟩:=P.tups;have hlen:=P.len;refine kat_kind (T:=.type "int") t (by lia) (λv l=>?_) (by decide) ?_
 ·obtain⟨i,t,rfl⟩:=hi v l;exact .now
 ·have e:(Value.type "int" != Value.type "tuple")=true:=by decide
  rw[e];obtain⟨c,e1,m,h,r,y⟩:=nO ps (zd5 d hlen);rw[hlen];refine wp_run (n:=ps.length) (P:=λ_=>True) (lt:=λi j=>lx (at2 ps i) (at2 ps j)) (λi j C hi B f=>?_) _ (jY (zd5 d hlen)) ?_
  ·obtain⟨a,o,t,u,n,g,ha,_,x⟩:=P.at i hi;obtain⟨b,o',t',G,F,k,hb,_,db⟩:=P.at j B;unfold kas_ask;rw[g,k];exact cD ha x hb db f
  ·rw[e1];exact hr c m h r y
def Srt (vs:List Value)(ps:List (Int×Int))(out:List Value):Prop:=
 ∃a:List Nat,out=a.map (λi=>vs.getD i Value.none)/\a.length=ps.length/\(∀i∈a,i<ps.length)/\(a.map (at2 ps)).Perm ps/\(a.map (at2 ps)).Pairwise (λp q=>lx q p=false)
theorem Srt.len {vs:List Value}{ps:List (Int×Int)}{out:List Value}(h:Srt vs ps out):out.length=ps.length:=by
 obtain⟨a,rfl,e,_⟩:=h;simp[e]
end
inductive PrV (H:Hp):List V->List (Int×Int)->Prop where
 |nil:PrV H [] []
 |cons {a:Addr}{xs:List V}{p:Int×Int}{ps:List (Int×Int)}:H a=some (.tup [.int p.1,.int p.2])->PrV H xs ps->PrV H (.ref a::xs) (p::ps)
section
variable {X:Cx}{pins:List (Addr×Obj)}{σ:St}{H H':Hp}{s:Shared}
theorem PrV.len {xs:List V}{ps:List (Int×Int)}(h:PrV H xs ps):xs.length=ps.length:=by
 induction h with
 |nil=>rfl
 |cons _ _ a=>simp[a]
theorem PrV.keep {xs:List V}{ps:List (Int×Int)}(k:∀a p q,H a=some (.tup [.int p,.int q])->H' a=some (.tup [.int p,.int q]))(h:PrV H xs ps):PrV H' xs ps:=by
 induction h with
 |nil=>exact .nil
 |cons e _ b=>exact .cons (k _ _ _ e) b
theorem PrV.app {xs ys:List V}{ps a:List (Int×Int)}(h:PrV H xs ps)(h':PrV H ys a):PrV H (xs++ys) (ps++a):=by
 induction h with
 |nil=>exact h'
 |cons e _ b=>exact .cons e b
theorem PrV.prs (I:Inv X pins σ H s):∀{xs:List V}{ps:List (Int×Int)}{us:List Value},PrV H xs ps->Vals xs us->Prs s.heap us ps:=by
 intro xs ps us h
 induction h generalizing us with
 |nil=>intro r;cases r;exact trivial
 |@cons a xs p ps e _ ih=>
  intro r;cases r with
  |cons r f=>
   cases(show _=Value.ref a from r);obtain⟨_,its,b,o,d,c,n,hd⟩:=(show zS X.prog X.w H s.heap a (.tup [.int p.1,.int p.2])from I.hok a _ e);obtain⟨u,v,rfl,⟨t,rfl⟩,⟨t',rfl⟩⟩:=Vals.two b;exact⟨⟨a,o,t,t',n,rfl,d,c,hd⟩,ih f⟩
theorem oC {xs:List V}{us:List Value}(r:Vals xs us):∀i x,xs[i]?=some x->RelV x (us.getD i Value.none):=by
 induction r with
 |nil=>intro i x h;simp at h
 |cons e _ a=>
  intro i x h;cases i with
  |zero=>have h':=zM7 (by simpa using h);subst h';exact e
  |succ i=>exact a i x (by simpa using h)
end
end L2
namespace Days
end Days
namespace L2
open PySem PySem.Spec PyProof.Rows Days
section
variable {X:Cx}{α:Ev}{e a b c tg:Expr}{pos p:Pos}{Q:PyData->Prop}{E:yo}{sts:List Stmt}
end
theorem gg (ds:List PyData):ds.filter (λ_=>true)=ds:=List.filter_eq_self.mpr λ_ _=>rfl
section
variable {X:Cx}{α:Ev}{tg:Expr}{pos p:Pos}{E:yo}{sts body:List Stmt}
end
def isNone :PyData->Bool
 |.none=>true
 |_=>false
abbrev eqS (d:PyData)(s:Str):Bool:=PyData.eqv d (.str s)
abbrev sU :PyData->Bool:=yy 0 1000000000000
def uK :PyData->Bool
 |.tuple [.int m,f]=>yy 2 14 (.int m)&&yy 1 (m-1) f
 |_=>false
def zK (w v:PyData):Bool:=
 if eqS w "price"=true then isNone v||sU v
 else if(eqS w "come"||eqS w "go")=true then isBool v
 else if(eqS w "least"||eqS w "most")=true then yy 1 14 v
 else if eqS w "deal"=true then isNone v||uK v
 else eqS w "fee"&&sU v
def zN :PyData->Bool
 |.tuple [w,a,b,v]=>wj (.tuple [a,b])&&zK w v
 |_=>false
abbrev words :List Str:=["price","come","go","least","most","deal","fee"]
def zE1 (x y z:V):List (Str×V):=xD "worth" z (xD "last" y (xD "first" x []))
structure Cs where
 price:Addr
 come:Addr
 go:Addr
 least:Addr
 most:Addr
 deal:Addr
 fee:Addr
def Cs.of (c:Cs)(w:Str):Addr:=
 if w="price" then c.price else if w="come" then c.come else if w="go" then c.go else if w="least" then c.least else if w="most" then c.most else if w="deal" then c.deal else c.fee
structure tf (K:PySem.W.Frag)(C fI fT fE fW:Addr):Prop where
 cl:Cls K C
 nf:yq K C "first"
 nl:yq K C "last"
 nw:yq K C "worth"
 makes:Mk K C fI
 told:Meth K C "told" fT
 tells:Meth K C "tells" fE
 word:Meth K C "word" fW
theorem xT {d:PyData}{s:Str}(h:eqS d s=true):d=.str s:=by
 cases d with
 |str x=>
  have h':(x == s)=true:=h;rw[eq_of_beq h']
 |_=>simp[PyData.eqv]at h
theorem oe {w v:PyData}(h:zK w v=true):∃s∈words,w=.str s:=by
 unfold zK at h;split at h
 ·rename_i e;exact⟨"price",by simp[words],xT e⟩
 ·split at h
  ·rename_i e;rcases(zX2 _ _).mp e with e|e
   ·exact⟨"come",by simp[words],xT e⟩
   ·exact⟨"go",by simp[words],xT e⟩
  ·split at h
   ·rename_i e;rcases(zX2 _ _).mp e with e|e
    ·exact⟨"least",by simp[words],xT e⟩
    ·exact⟨"most",by simp[words],xT e⟩
   ·split at h
    ·rename_i e;exact⟨"deal",by simp[words],xT e⟩
    ·rw[zN3]at h;exact⟨"fee",by simp[words],xT h.1⟩
theorem uO {d:PyData}(h:zN d=true):∃(s:Str) (a b v:PyData),s∈words/\d=.tuple [.str s,a,b,v]:=by
 unfold zN at h;split at h
 ·rename_i w a b v;rw[zN3]at h;obtain⟨s,c,rfl⟩:=oe h.2;exact⟨s,a,b,v,c,rfl⟩
 ·cases h
section
variable {X:Cx}
end
abbrev wy (C:Addr)(fs:List (PyData×PyData)):PyData:=.dict ((.int (C:Nat),.none)::fs)
def sj :List (PyData×PyData)->Str->Option PyData
 |[],_=>none
 |(.str g,d)::r,f=>if f=g then some d else sj r f
 |_::r,f=>sj r f
theorem AVf.get {H:Hp}:∀{fs:List (Str×V)}{ds:List (PyData×PyData)}{f:Str}{d:PyData},AVf H fs ds->sj ds f=some d->∃v,fs.lookup f=some v/\AV H v d
 |_,_,f,d,.nil,e=>by cases e
 |_,_,f,d,.cons (f:=g) h r,e=>by
  rw[zO0];unfold sj at e;by_cases z:f=g
  ·subst z;rw[if_pos rfl]at e;cases e;exact⟨_,by simp,h⟩
  ·rw[if_neg z]at e;have a:(f == g)=false:=by simpa using z
   rw[a];exact AVf.get r e
theorem AVf.none {H:Hp}{fs:List (Str×V)}{ds:List (PyData×PyData)}{f:Str}(h:AVf H fs ds)(e:sj ds f=Option.none):fs.lookup f=Option.none:=by
 induction h using AVf.ind with
 |nil=>rfl
 |@cons g _ _ _ _ h r ih=>
  rw[zO0];unfold sj at e;by_cases z:f=g
  ·subst z;rw[if_pos rfl]at e;cases e
  ·rw[if_neg z]at e;have a:(f == g)=false:=by simpa using z
   rw[a];exact ih e
theorem AV.ins_inv {H:Hp}{v:V}{C:Addr}{ds:List (PyData×PyData)}(h:AV H v (wy C ds)):∃a dx fs,v=.ref a/\H a=some (.ins C dx fs)/\AVf H fs ds:=by
 generalize e:wy C ds=d at h;cases h with
 |@ins a b dx fs ds' h1 h2=>
  injection e with e;injection e with e1 f;have c:(C:Int)=(b:Int):=by
   have:=congrArg Prod.fst e1;injection this
  have g:C=b:=Int.ofNat.inj c;subst g f;exact⟨a,dx,fs,rfl,h1,h2⟩
 |_=>cases e
section
variable {X:Cx}{α:Ev}{o e:Expr}{es:List Expr}{pos apos p:Pos}{Q:PyData->Prop}{C:Addr}{f m:Str}
theorem wD (c:Cls X.K C)(na:yq X.K C f)(h:EvD X α o λx=>∃fs d,x=wy C fs/\sj fs f=some d/\Q d)(hb:attributeBase o f X.env (eval o X.env)=eval o X.env:=by rfl):EvD X α (.Attribute o f pos) Q:=λF σ H R m k=>by
 refine⟨_,zr9 zi hb,?_⟩;refine h F σ H _ m λx s H1 l t1 n r=>?_;obtain⟨fs,d,rfl,hf,q⟩:=l;obtain⟨a,dx,b,rfl,i,j⟩:=r.ins_inv;obtain⟨v,g,av⟩:=j.get hf;exact⟨a,C,dx,b,v,rfl,(zj i).2,c,na,g,k d v H1 q t1 n av⟩
structure yQ (P:Program)(w:World)(K:PySem.W.Frag)(mg:Str->Option Value)(base:Heap)(C:Addr)(m:Str)(k:Nat)(φ:List A->(A->Prop)->Prop):Prop where
 ex:∃f fd ps,Cls K C/\Meth K C m f/\Binds K fd ps []/\yE P w K mg base CX0 k f fd ps (spA φ)
theorem wH {k:Nat}{φ:List A->(A->Prop)->Prop}{pl:Sem Bool}(B:yQ X.prog X.w X.K X.mg X.base C m k φ)(hr:zI k X.A)(h:EvD X α o λx=>∃fs,x=wy C fs/\sj fs m=none/\EvA X α (e::es) λas=>φ (.dat (wy C fs)::as) λa=>Q a.d)
  (b:starEach (e::es) X.env=(false,eval e X.env)::starEach es X.env:=by rfl) (hpl:(backTo pos (starEach es X.env)).any (·.1)=false:=by rfl)
  (M:eval (.Call (.Attribute o m apos) (e::es) [] pos) X.env=(do
   let ov <-eval o X.env
   standAt apos.atName
   let(f,first) <-holding [ov] (getMethod ov m pl)
   callWith pos f first (backTo pos (starEach (e::es) X.env)) (backToKw pos (keywordEach [] X.env))):=by rfl):EvD X α (.Call (.Attribute o m apos) (e::es) [] pos) Q:=λF σ H R i D=>by
 obtain⟨f,fd,ps,c,hm,hb,G⟩:=B.ex;refine⟨_,aP zi c hm G hr hb .nil pM yN b hpl M,?_⟩;refine h F σ H _ i λx O H1 t t1 j l=>?_;obtain⟨fs,rfl,hf,q⟩:=t;have m1:=i.kz j t1;obtain⟨a,dx,n,rfl,I,r⟩:=l.ins_inv;refine⟨a,dx,n,rfl,(zj I).2,r.none hf,?_⟩;refine q F σ H1 _ m1 λas vs P y N g s=>?_;have m2:=m1.kz g N;have J:=xU (vs:=.ref a::vs) (as:=.dat (wy C fs)::as) (R:=R) (E:=E0) m2 (.cons (l.same (g.gz m1.tp)) s) y λz v H' u L=>by
  obtain⟨g1,g2,g3⟩:=L.back m2;exact D _ v H' u g1 ((j.trans g).trans g2) g3
 exact J
theorem sL {k:Nat}{φ:List A->(A->Prop)->Prop}{pl:Sem Bool}(s:yQ X.prog X.w X.K X.mg X.base C m k φ)(hr:zI k X.A)(h:EvD X α o λx=>∃fs,x=wy C fs/\sj fs m=none/\φ [.dat (wy C fs)] λa=>Q a.d)
  (B:eval (.Call (.Attribute o m apos) [] [] pos) X.env=(do
   let ov <-eval o X.env
   standAt apos.atName
   let(f,first) <-holding [ov] (getMethod ov m pl)
   callWith pos f first (backTo pos (starEach [] X.env)) (backToKw pos (keywordEach [] X.env))):=by rfl):EvD X α (.Call (.Attribute o m apos) [] [] pos) Q:=λF σ H R b t=>by
 obtain⟨f,fd,ps,c,hm,hb,G⟩:=s.ex;refine⟨_,gQ zi c hm G hr hb .nil pM B,?_⟩;refine h F σ H _ b λx I H1 n t1 g i=>?_;obtain⟨fs,rfl,hf,q⟩:=n;have m1:=b.kz g t1;obtain⟨a,dx,j,rfl,u,l⟩:=i.ins_inv;refine⟨a,dx,j,rfl,(zj u).2,l.none hf,?_⟩;have y:=xU (vs:=[.ref a]) (as:=[.dat (wy C fs)]) (R:=R) (E:=E0) m1 (.cons i .nil) q λz v H' r D=>by
  obtain⟨g1,g2,g3⟩:=D.back m1;exact t _ v H' r g1 (g.trans g2) g3
 exact y
def zc2 (F:Fr)(v:V)(H':Hp)(d:PyData):Prop:=zB F H'/\Kz F F.H0 H'/\AV (sub (λx=>¬F.O0 x/\∀xs,F.H0 x≠some (.lst xs)) H') v d
def EvN (X:Cx)(α:Ev)(e:Expr)(Q:PyData->Prop):Prop:=∀(F:Fr) (σ:St) (H:Hp) (R:VK),M F α σ H->(∀d v H',Q d->zB F H'->Kz F H H'->AV (sub (λx=>¬Ow F α σ x/\∀xs,H x≠some (.lst xs)) H') v d->R v H')->tu X e σ H R
theorem EvN.d (h:EvN X α e Q):EvD X α e Q:=λF σ H R m k=>h F σ H R m λd v H' q t z r=>k d v H' q t z (r.same (zu λa o h e=>⟨h.1,e⟩))
def spI (C:Addr)(φ:List A->(A->Prop)->Prop):Sp:=λvs H b _=>∃(F:Fr) (as:List A) (Q:A->Prop) (x dx:Addr) (a:List V) (H1:Hp),vs=.ref x::a/\H1 x=none/\H1 dx=none/\dx≠x/\H=upd (upd H1 dx (.own x)) x (.ins C dx [])/\
 F.H0=H1/\zB F H1/\(∀y,F.O0 y->∃u,H1 y=some u/\wo u)/\ye F (sub (λy=>¬F.O0 y) H1) a as/\φ as Q/\∀d H',Q (.dat d)->zc2 F (.ref x) H' d->b .non H'
structure vk (P:Program)(w:World)(K:PySem.W.Frag)(mg:Str->Option Value)(base:Heap)(x:Str)(k:Nat)(dvs:List V)(φ:List A->(A->Prop)->Prop):Prop where
 ex:∃C f fd ps ds,mg x=some (.ref C)/\Mk K C f/\Binds K fd ps ds/\Vals dvs ds/\yE P w K mg base CX0 k f fd ps (spI C φ)
theorem mP {F:Fr}{σ:St}{H:Hp}{vs:List V}{as:List A}{a:A->Prop}{R:VK}{φ:List A->(A->Prop)->Prop}(m:M F α σ H)(h:ye F (Gz F α σ H) vs as)(b:φ as a)
  (g:∀d v H',a (.dat d)->zc2 ⟨H,Ow F α σ,F.tp⟩ v H' d->R v H') {E:XK} (x dx:Addr) (c:H x=none) (hdx:H dx=none) (hne:dx≠x):spI C φ (.ref x::vs) (upd (upd H dx (.own x)) x (.ins C dx [])) (λv i=>v=.non/\R (.ref x) i) E:=by
 refine⟨⟨H,Ow F α σ,F.tp⟩,as,a,x,dx,vs,H,rfl,c,hdx,hne,rfl,rfl,?_,?_,?_,b,λd H' j k=>⟨rfl,g d _ H' j k⟩⟩
 ·exact m.tp.to rfl λ_ z=>.inl z
 ·exact λy z=>m.owEx z
 ·exact ye.to (F:=F) (F':=⟨H,Ow F α σ,F.tp⟩) (λ_ _ e=>e) rfl h
theorem zc2.back {F:Fr}{σ:St}{H H1 H':Hp}{v:V}{d:PyData}(m:M F α σ H)(b:Kz F H H1)(h:zc2 ⟨H1,Ow F α σ,F.tp⟩ v H' d):zB F H'/\Kz F H1 H'/\AV (sub (λx=>¬Ow F α σ x/\∀xs,H x≠some (.lst xs)) H') v d:=by
 obtain⟨t,kz,r⟩:=h;refine⟨m.tp.re t rfl,kz,r.same (zu λa o h e=>⟨⟨h.1,λxs z=>h.2 xs (b _ _ z (m.tp.nt (ow0 h.1)))⟩,e⟩)⟩
theorem za0 {k:Nat}{φ:List A->(A->Prop)->Prop}{x:Str}(l:vk X.prog X.w X.K X.mg X.base x k [] φ)(hr:zI (k+1) X.A)(hg:Gl X x)(h:EvA X α (e::es) λas=>φ as λa=>Q a.d)
  (b:(x == ("__debug__":Str))=false:=by decide) (he:starEach (e::es) X.env=(false,eval e X.env)::starEach es X.env:=by rfl) (hpl:(backTo pos (starEach es X.env)).any (·.1)=false:=by rfl):EvN X α (.Call (.Name x p) (e::es) [] pos) Q:=λF σ H R m n=>by
 obtain⟨C,f,fd,ps,ds,hm,hk,hb,hd,G⟩:=l.ex;cases hd;refine⟨_,zb9 hk G hr hg hm hb .nil pM yN b he hpl,?_⟩;refine h F σ H _ m λas vs H1 g t1 c j=>?_;have m1:=m.kz c t1;intro y dx hy hdx hne;rw[zO1];refine mP m1 j g (λd v H' i q=>?_) y dx hy hdx hne;obtain⟨g1,g2,g3⟩:=q.back m c;exact n d v H' i g1 (c.trans g2) g3
end
structure zn4 (K:PySem.W.Frag)(x qual:Str)(st:Stmt)(dV:Value)(f:Addr)(fd:FuncData):Prop where
 ex:∃(oc:Value) (od:Option Addr) (kV doc pm:Value) (an:Option Addr) (cdv ct:Value) (osl:Array (Option Value)),
  fd=PySem.W.fnOf x qual (zJ st) (zw st) (zf st) dV kV doc pm an cdv ct/\K.lookup f=some ⟨oc,od,.func fd,osl⟩/\PySem.W.codeIn K cdv qual=true
 kp:PySem.W.keepIn K (.ref f)=true
theorem bE {K:PySem.W.Frag}{x qual:Str}{st:Stmt}{f:Addr}{oc:Value}{od an:Option Addr}{osl:Array (Option Value)}{dV kV doc pm cdv ct:Value}(l:K.lookup f=some ⟨oc,od,.func (PySem.W.fnOf x qual (zJ st) (zw st) (zf st) dV kV doc pm an cdv ct),osl⟩)
  (c:PySem.W.codeIn K cdv qual=true) (k:PySem.W.keepIn K (.ref f)=true):zn4 K x qual st dV f (PySem.W.fnOf x qual (zJ st) (zw st) (zf st) dV kV doc pm an cdv ct):=⟨⟨oc,od,kV,doc,pm,an,cdv,ct,osl,rfl,l,c⟩,k⟩
section
variable {P:Program}{w:World}{K:PySem.W.Frag}{mg:Str->Option Value}{base:Heap}
theorem zD2 {qual:Str}{st:Stmt}{f C:Addr}{dV:Value}{fd:FuncData}{N:List Str}{x:Str}{k:Nat}{φ:List A->(A->Prop)->Prop}{fl:Str}{e:Expr}{p1 p2 p3:Pos}(G:zn4 K "__init__" qual st dV f fd)(S:zT ("self"::x::N) ["self",x] (zf st))(c:Cls K C)(na:yq K C fl)
  (hb:zw st=[.Assign [.Attribute (.Name "self" p1) fl p2] e p3]) (hlen:∀as Q,φ as Q->as.length=1)
  (R:∀(cdv:Value) (J:Around) (outer:List Env) (s:Shared) (H:Hp) (E:XK) (as:List A) (Q:A->Prop),zI k (J.deeper (envOfC qual (zf st) s.heap.objs.size f cdv))->φ as Q->
   EvL (wq CX0 P w K mg base ("self"::x::N) qual (zf st) f cdv J outer s H E).nox (none::as.map some++List.replicate N.length none) e λds=>uq ds=true/\Q (.dat (wy C [(.str fl,.list ds)])))
  (a8:∀(cdv:Value) (J:Around) (outer:List Env) (s:Shared) (H:Hp) (E:XK),swapsWith e (some (.Attribute (.Name "self" p1) fl p2)) p3.line (wq CX0 P w K mg base ("self"::x::N) qual (zf st) f cdv J outer s H E).nox.env=pure false)
  (hv:Vis (zf st) "self"):yE P w K mg base CX0 (k+1) f fd ["self",x] (spI C φ):=by
 obtain⟨oc,od,kV,doc,pm,an,cdv,ct,osl,rfl,lk,a6⟩:=G.ex;refine eZ lk a6 S (λvs H Q E h=>?_) λJ outer s H vs Qc E hr h=>?_
 ·obtain⟨F,as,Q',y,dx,m,H1,rfl,_,_,_,_,_,_,_,rv,D,_⟩:=h;rw[zM0,rv.length,hlen as _ D];rfl
 ·obtain⟨F,as,Q',y,dx,m,H1,rfl,hy,hdx,hne,rfl,rfl,t,o,rv,D,kk⟩:=h;have hl:=rv.length;have a7:=hlen as _ D;rw[hb];refine⟨_,(show PSs _ _ _ from(tE (qJ (X:=(wq CX0 P w K mg base ("self"::x::N) qual (zf st) f cdv J outer s (upd (upd F.H0 dx (.own y)) y (.ins C dx [])) E).nox) (yX (i:=0) rfl hv) zi (a8 cdv J outer s _ E))).nox),?_⟩
  let Y:Fr:=⟨F.H0,λz=>F.O0 z\/z=y\/z=dx,F.tp⟩
  have s1:zv F.H0 (upd (upd F.H0 dx (.own y)) y (.ins C dx [])):=λa u q=>by rw[zh (zl q hy),zh (zl q hdx)];exact q
  have O:¬F.O0 y:=λz=>by obtain⟨u,B,_⟩:=o y z;rw[hy]at B;cases B
  have b0:¬F.O0 dx:=λz=>by obtain⟨u,B,_⟩:=o dx z;rw[hdx]at B;cases B
  have t2:zB Y (upd (upd F.H0 dx (.own y)) y (.ins C dx [])):=(t.same s1).to rfl λ_ z=>.inl z
  -- the names of the body
  have g:∀{i:Nat} {a:A},(none::as.map some++List.replicate N.length none:Ev)[i]?=some (some a)->∃j,i=j+1/\as[j]?=some a:=λ{i a} h=>by
   cases i with
   |zero=>simp at h
   |succ j=>
    refine⟨j,rfl,?_⟩;have h':(as.map some++List.replicate N.length none:Ev)[j]?=some (some a):=by simpa using h
    rcases zN2 j as.length with z|z
    ·rw[zO6 (by rw[zI5];exact z),zK0,zL5]at h';obtain⟨b,h1,T⟩:=h';cases T;exact h1
    ·rw[zQ5 (by rw[zI5];exact z),zQ2]at h';split at h'<;>cases h'
  have at':∀{vs:List V} {as:List A} {i:Nat} {a:A},ye F (sub (λx=>¬F.O0 x) F.H0) vs as->as[i]?=some a->∃v,vs[i]?=some v/\iB F (sub (λx=>¬F.O0 x) F.H0) v a:=by
   intro vs as i a h
   induction h generalizing i with
   |nil=>intro e;simp at e
   |cons h r ih=>
    intro e;cases i with
    |zero=>simp at e;subst e;exact⟨_,rfl,h⟩
    |succ i=>obtain⟨v,h1,T⟩:=ih (by simpa using e);exact⟨v,by simpa using h1,T⟩
  have gv:∀{j:Nat} {v:V},m[j]?=some v->(L2.start ("self"::x::N) (.ref y::m))[j+1]?=some (some v):=λ{j v} h=>by
   have hj:j<m.length:=(zI8.mp h).1;unfold L2.start;rw[zO6 (by rw[zI5,zM0];exact Nat.add_lt_add_right hj _),zK0,z04,h];rfl
  have no:∀(i:Nat) a,(none::as.map some++List.replicate N.length none:Ev)[i]?=some (some a)->(∃d,a=.dat d)\/a=.tape:=λi a z=>by
   obtain⟨j,_,hj⟩:=g z;obtain⟨v,_,h⟩:=at' rv hj;cases a with
   |dat d=>exact .inl ⟨d,rfl⟩
   |tape=>exact .inr rfl
   |_=>exact h.elim
  have gs:zv (sub (λx=>¬F.O0 x) F.H0) (Gz Y (none::as.map some++List.replicate N.length none) (L2.start ("self"::x::N) (.ref y::m)) (upd (upd F.H0 dx (.own y)) y (.ins C dx []))):=λa u q=>by
   obtain⟨Z,I⟩:=zj q;refine zF ?_ (s1 _ _ I);rintro((z|z|z)|⟨i,b,s,e,_,f⟩)
   ·exact Z z
   ·rw[z,hy]at I;cases I
   ·rw[z,hdx]at I;cases I
   ·rcases no i b e with⟨d,rfl⟩|rfl
    ·exact f.elim
    ·exact f.elim
  have m2:M Y (none::as.map some++List.replicate N.length none) (L2.start ("self"::x::N) (.ref y::m)) (upd (upd F.H0 dx (.own y)) y (.ins C dx [])):=by
   refine⟨by unfold L2.start;simp[hl,a7],λi a s e1 e2=>?_,λi j a b s t x e1 _ _ _ f=>?_,λi r q z=>(by rcases no i _ z with⟨d,w⟩|w<;>cases w),t2,λz u h _=>s1 z u h,λz hz=>?_⟩
   ·obtain⟨j,rfl,hj⟩:=g e1;obtain⟨v,h1,T⟩:=at' rv hj;rw[gv h1]at e2;cases e2;rcases no _ a e1 with⟨d,rfl⟩|rfl
    ·exact⟨v,rfl,AV.same gs T⟩
    ·obtain⟨t',b,c,h3,rfl⟩:=T;exact⟨t',b,c,h3,rfl⟩
   ·rcases no i a e1 with⟨d,rfl⟩|rfl
    ·exact f.elim
    ·exact f.elim
   ·rcases hz with q|q|q
    ·obtain⟨u,B,hn⟩:=o z q;exact⟨u,s1 _ _ B,hn⟩
    ·exact⟨_,by rw[q];exact zk,λ_ q=>by cases q⟩
    ·exact⟨_,by rw[q,zh hne];exact zk,λ_ q=>by cases q⟩
  refine R cdv J outer s _ E as Q' hr D Y _ _ _ m2 λd v H2 qd t3 k3 r3=>?_;obtain⟨l,xs,rfl,p,a5,a9⟩:=r3;obtain⟨a4,qd⟩:=qd;have U:l≠y:=λz=>by rw[z,zk]at p;cases p
  have a0:l≠dx:=λz=>by rw[z,zh hne,zk]at p;cases p
  have L:F.H0 l=none:=by rw[zh U,zh a0]at p;exact p
  have a1:¬F.O0 l:=λz=>by obtain⟨u,B,_⟩:=o l z;rw[L]at B;cases B
  have a3:NT Y y:=t.nt O;have a2:H2 y=some (.ins C dx []):=k3 _ _ zk a3;refine⟨.ref y,rfl,y,C,dx,[],rfl,a2,c,na,by show 0<1000;decide,?_⟩;refine kk _ _ qd ⟨(t.re t3 rfl).updO O (ir a2),λz u h n=>?_,?_⟩
  ·rw[zh (zl h hy)];exact k3 _ _ (s1 _ _ h) n
  ·refine AV.ins (zF ⟨O,λxs z=>by rw[hy]at z;cases z⟩ zk) (.cons (.lst (zF ⟨a1,λxs z=>by rw[L]at z;cases z⟩ (by rw[zh U];exact a5)) ?_) .nil);refine a9.noL (λa u hno z=>?_) a4;obtain⟨Z,I⟩:=zj z;have na:a≠y:=λw=>Z.1 (.inl (.inr (.inl w)));refine zF ⟨λw=>Z.1 (.inl (.inl w)),λxs w=>?_⟩ (by rw[zh na];exact I);have:H2 a=some (.lst xs):=k3 _ _ (s1 _ _ w) (t.nt λw=>Z.1 (.inl (.inl w)));rw[I]at this;cases this;exact hno trivial
end
section
variable {X:Cx}{α:Ev}{e e':Expr}{pos:Pos}{E:yo}{sts:List Stmt}
end
def Itv (K:PySem.W.Frag)(a:Addr)(n:Nat):It:=
 ⟨λi H=>∃xs x,SqL K H a xs/\xs.length=n/\i<n/\xs[n-1-i]?=some x,λi H x H'=>H'=H/\∀xs,SqL K H a xs->xs[n-1-i]?=some x,λi H=>n<=i⟩
theorem cz {P:Program}{w:World}{K:PySem.W.Frag}{tg:Expr}(a it:Addr)(n:Nat):Turn P w K tg (Itv K a n) [it] it (λi h=>i<=n/\h.IsRevIter it a ((n:Int)-1-(i:Int))) where
 mem:=by simp
 obj:=λi h st b hb=>by
  have e:b=it:=by simpa using hb
  subst e;obtain⟨_,o,e,c,d⟩:=st;exact⟨o,e,λv z=>by rw[d]at z;cases z⟩
 keep:=λi h h' st k=>⟨st.1,st.2.at λo e=>k it (by simp) o e⟩
 item:=by
  intro X g hw m q i pins s σ H E I hf st hg;subst g hw m;obtain⟨xs,x,hq,G,hi,r⟩:=hg;obtain⟨its,F,p,hz⟩:=I.list hq;obtain⟨u,t,B⟩:=F.get r;obtain⟨f0,f1,f2,j,f4,l⟩:=hf it (by simp);have e1:((n:Int)-1-(i:Int))=((n-1-i:Nat):Int):=by lia
  have st':=st.2;rw[e1]at st';refine wpAny_pyNext_rev_item st' p.isList (x:=u) (by simpa using t) λh' f sb=>?_;have D:Inv X pins σ H {s with heap:=h'}:=I.turned (t':=s.toks) (λb o hb e=>(sb.2 b hb).trans e) f0 f1 j f4 l;obtain⟨o,e,c,d⟩:=id f;have C:(((n-1-i:Nat):Int)-1)=(n:Int)-1-((i+1:Nat):Int):=by lia
  rw[C]at f;exact⟨u,rfl,kZ (s:={s with heap:=h'}) e c d (by decide) ⟨x,H,D,B,⟨rfl,λys hy=>by rw[I.list_inj hy hq];exact r⟩,⟨hi,f⟩,λb hb=>(hf b hb).1⟩⟩
 done:=by
  intro X g hw m q i pins s σ H E I hf st hg;subst g hw m;have hi:i=n:=zS5 st.1 hg;obtain⟨f0,f1,f2,j,f4,l⟩:=hf it (by simp);have st':=st.2;rw[show((n:Int)-1-(i:Int))=-1 by lia]at st';exact wpAny_pyNext_rev_end (I.ok.hd q) st' λh' y=>⟨rfl,I.turned (t':=s.toks) (λb o hb e=>y b o hb e) f0 f1 j f4 l⟩
 self:=λA i s Q E st h=>wpAny_pyIter_revIter st.2 h
section
variable {X:Cx}{α:Ev}{tg:Expr}{p pos:Pos}{a:Expr}
def zF1 (K:PySem.W.Frag)(b:TA):TI:=λσ H R=>b σ H λvs H1=>∃l xs,vs=[.ref l]/\SqL K H1 l xs/\R (Itv K l xs.length) H1
theorem zo4 {k:TA}(hg:Gl X "reversed")(hm:X.mg "reversed"=none)(ha:PA X [a] k)(m:starEach [a] X.env=[(false,eval a X.env)]:=by rfl):PI X tg (.Call (.Name "reversed" p) [a] [] pos) (zF1 X.K k):=by
 intro pins s σ H R I h;refine Call_ (xF I hg hm boot_reversed (zP3 (thn (ha pos pins s σ H _ I h) λus s1 g=>?_) m rfl));obtain⟨vs,H1,f,t,r⟩:=g;obtain⟨l1,xs,e,j,q⟩:=r;subst e;obtain⟨u,rfl,l⟩:=Vals.one t;cases(show u=Value.ref l1 from l);obtain⟨c,i,p1,n⟩:=f.list j;have hlen:=i.length;refine call_reversed_list p1.isList ?_;have d:({s1 with heap:=s1.heap.push (revObj l1 ((c.toArray.size:Int)-1))}:Shared).heap.IsRevIter s1.heap.objs.size l1 ((xs.length:Int)-1-((0:Nat):Int)):=by
  refine⟨_,zJ4 _ rfl,rfl,?_⟩;show Data.fields _=_;rw[zK7,hlen];simp
 refine wpAny_pyIter_revIter d ?_;refine⟨_,_,_,_,H1,rfl,f.kept (t':=s1.toks) λb o e=>zI4 _ e,cz l1 _ xs.length,⟨zJ8 _,d⟩,λb hb=>?_,q⟩;have e:b=s1.heap.objs.size:=by simpa using hb
 subst e;exact f.fpOk (zJ0 _) (f.hok.fresh (zJ0 _))
theorem zr0 {Q:List PyData->Prop}(hg:Gl X "reversed")(hm:X.mg "reversed"=none)(h:EvD X α a λx=>∃ds,x=.list ds/\Q ds.reverse)(e:starEach [a] X.env=[(false,eval a X.env)]:=by rfl):
  EvI X α tg (.Call (.Name "reversed" p) [a] [] pos) Q:=λF σ H R m k=>by
 refine⟨_,zo4 hg hm (zE zi yp e) e,?_⟩;refine h F σ H _ m λx o H1 g t1 j l=>?_;obtain⟨ds,rfl,q⟩:=g;obtain⟨l1,xs,rfl,g1,g2⟩:=l.lst_inv;refine⟨l1,xs,rfl,SqL.of (zj g1).2,k _ _ H1 q t1 j λi r p s=>⟨λd hd=>?_,λf=>?_⟩⟩
 ·have s1:=SqL.of (K:=X.K) (zj (s _ _ g1)).2;have hi:i<ds.length:=by
   have:=(zI8.mp hd).1
   rwa [zZ1]at this
  rw[List.getElem?_reverse hi]at hd;obtain⟨n,b,c⟩:=g2.get hd;rw[<-g2.length]at b;refine⟨⟨xs,n,s1,rfl,by rw[g2.length];exact hi,b⟩,λv t y=>?_⟩;obtain⟨rfl,hy⟩:=y;have:=hy _ s1;rw[b]at this;cases this;exact⟨zv.refl _,λ_=>c.same s⟩
 ·rw[zZ1,<-g2.length]at f;exact f
end
def EnS (w:World):List DictEntry->List (Str×V)->Prop:=Paired λe p=>e.hash=hashStr w p.1/\(∃t,e.key=.str p.1 t)/\RelV p.2 e.val
def kl (K:PySem.W.Frag)(w:World)(d:Addr)(a:List (Str×V)):Prop:=
 ∃es n,K.lookup d=some ⟨.type "dict",none,.dict es n,#[]⟩/\EnS w es.toList a/\(a.map (·.1)).Nodup
theorem rK {P:Program}{w:World}{es:List DictEntry}{a:List (Str×V)}(h:EnS w es a):Pairs (PySem.strKind P w) es (List.zipWith (λe (p:Str×V)=>(p.1,e.val)) es a):=by
 induction h with
 |nil=>exact .nil
 |cons q _ b=>
  obtain⟨_,⟨t,c⟩,_⟩:=q;exact .cons (by rw[c];simp[PySem.strKind,Value.isStrOf]) rfl b
theorem qF {w:World}{es:List DictEntry}{a:List (Str×V)}(h:EnS w es a):(List.zipWith (λe (p:Str×V)=>(p.1,e.val)) es a).map (·.1)=a.map (·.1):=by
 induction h with
 |nil=>rfl
 |cons _ _ b=>simp only[List.zipWith_cons_cons,zM9,b]
theorem oB {P:Program}{w:World}{es:List DictEntry}{c:List (Str×V)}(h:EnS w es c):∀e∈es,∃k,(PySem.strKind P w).is k e.key=true/\e.hash=(PySem.strKind P w).hash k:=by
 induction h with
 |nil=>intro e he;simp at he
 |@cons _ p _ _ q _ ih=>
  obtain⟨a,⟨t,b⟩,_⟩:=q;intro e he;rcases zJ1.mp he with rfl|he
  ·exact⟨p.1,by rw[b];simp[PySem.strKind,Value.isStrOf],a⟩
  ·exact ih e he
theorem zb0 {w:World}{x:Str}{v:V}{es:List DictEntry}{a:List (Str×V)}(d:EnS w es a)(h:a.lookup x=some v):∃u,valueAt (List.zipWith (λe (p:Str×V)=>(p.1,e.val)) es a) x=some u/\RelV v u:=by
 induction d with
 |nil=>simp at h
 |@cons e p _ _ k _ ih=>
  obtain⟨y,z⟩:=p;by_cases q:x=y
  ·subst q;simp only[List.lookup_cons_self,Option.some.injEq]at h;subst h;exact⟨e.val,by simp[valueAt],k.2.2⟩
  ·rw[zO0,zW6.mpr q]at h;obtain⟨u,b,c⟩:=ih h;refine⟨u,?_,c⟩;rw[<-b];simp[valueAt,zO8,zN4 q]
section
variable {X:Cx}{α:Ev}{p pos:Pos}{a:Expr}{g:Str}{Q:PyData->Prop}
def zu4 (i:Expr):Prop:=∀c b,subscripted i false c b=operate [c,b] (getItem c b)
theorem zH5 {prog:Program}{w:World}{A:Around}{E:Value->Shared->Prop}{s:Shared}{env:Env}{value slice:Expr}{pos:Pos}{T id:String}{Q:Value->Shared->Prop}
  (l:typeLookup (.type T) "__getitem__"=pure (some (.builtin id))) (m:zu4 slice)
  (h:wpAny (model prog w) A (eval value env) (λo e=>wpAny (model prog w) A (eval slice env) (λi b=>b.TypeIs o T/\wpAny (model prog w) A (getItem o i) Q E b) E e) E s):
  wpAny (model prog w) A (eval (.Subscript value slice pos) env) Q E s:=by
 refine Subscript_ (thn h λo e f=>thn f λi b c=>?_);obtain⟨k,c⟩:=c;unfold subscriptTail;refine zI3 ?_;rw[getitemInPython_of_ne k.not_modules];refine zI3 (z29 k l ?_);have fin:wpAny (model prog w) A (subscripted slice false o i) (λr d=>wpAny (model prog w) A (letTemporaryGo value o r >>= λ_=>pure r) Q E d) E b:=by
  rw[m o i];exact wpAny_operating (thn c λr d j=>zI3 (wpAny_letTemporaryGo (zI6 j)))
 first
  |exact zI6 (zI3 fin)
  |exact zI3 (zI6 (zI3 fin))
  |exact zI3 fin
theorem gY {d:Addr}{f:List (Str×V)}{ty:TE}(hg:Gl X g)(hm:X.mg g=some (.ref d))(hd:kl X.K X.w d f)(hi:PE X a ty)(m:zu4 a)(hb:(g == ("__debug__":Str))=false:=by decide):
  PE X (.Subscript (.Name g p) a pos) (λσ H Q=>ty σ H λy H1=>∃x v,y=.str x/\f.lookup x=some v/\Q v H1):=by
 intro pins s σ H Q I h;refine zH5 PySem.F.slot_dict_getitem.lookup m (vK I hg hm (thn (hi pins s σ H _ I h) λB s2 b=>?_) hb);obtain⟨y,A,i,r,x,v,l,ex,o⟩:=b;subst l;obtain⟨t,rfl⟩:=r;obtain⟨es,n,q,he,hn⟩:=hd;have j:s2.heap.DictOf (PySem.strKind X.prog X.w) d (List.zipWith (λe (p:Str×V)=>(p.1,e.val)) es.toList f):=
  ⟨_,es,n,i.kIn _ _ q,⟨rfl,rfl,rfl⟩,rfl,λe c=>oB he e (by simpa using c),rK he,by rw[qF he];exact hn⟩
 obtain⟨u,z,k⟩:=zb0 he ex;exact⟨j.typeIs,wpAny_getItem_of (show(PySem.strKind X.prog X.w).is x (.str x t)=true by simp[PySem.strKind,Value.isStrOf]) j.mapOf z ⟨v,A,i.tok _,k,o⟩⟩
def scV :PyData->Option V
 |.none=>some .non
 |.bool b=>some (.bl b)
 |.int i=>some (.int i)
 |.str x=>some (.str x)
 |_=>Option.none
theorem zo1 {H:Hp}{d:PyData}{v:V}(h:scV d=some v):AV H v d:=by
 cases d<;>simp[scV]at h<;>subst h<;>constructor
theorem gS {d:Addr}{b:List (Str×V)}(hg:Gl X g)(hm:X.mg g=some (.ref d))(hd:kl X.K X.w d b)(h:EvD X α a λy=>∃x d v,y=.str x/\b.lookup x=some v/\scV d=some v/\Q d)(f:zu4 a:=by exact λ_ _=>rfl)
  (hb:(g == ("__debug__":Str))=false:=by decide):EvD X α (.Subscript (.Name g p) a pos) Q:=λF σ H R m k=>by
 refine⟨_,gY hg hm hd zi f hb,?_⟩;refine h F σ H _ m λy n H1 i t1 j l=>?_;obtain⟨x,d',v,rfl,c,e,q⟩:=i;cases l.str_inv;exact⟨x,v,rfl,c,k _ _ H1 q t1 j (zo1 e)⟩
end
section
variable {X:Cx}{α:Ev}{p pos:Pos}{a b:Expr}{g:Str}{Q:PyData->Prop}
def rO :PyData->Bool
 |.none=>true
 |.bool _=>true
 |.int _=>true
 |.str _=>true
 |_=>false
theorem jh {H:Hp}{v:V}{d:PyData}(h:AV H v d)(f:rO d=true):vd v=true/\scV d=some v:=by
 cases h<;>first|exact⟨rfl,rfl⟩|cases f
theorem fL {H:Hp}{xs:List V}{ds:List PyData}(h:AVs H xs ds)(f:ds.all rO=true):xs.all vd=true/\ds.map scV=xs.map some:=by
 induction h using AVs.ind with
 |nil=>exact⟨rfl,rfl⟩
 |cons h _ c=>
  rw[z40,zN3]at f;obtain⟨d,e⟩:=jh h f.1;obtain⟨i,j⟩:=c f.2;exact⟨by rw[z40,d,i];rfl,by rw[zM9,zM9,e,j]⟩
def inD (x:PyData)(ds:List PyData):Bool:=ds.any λy=>match scV y,scV x with
 |some u,some v=>eqV u v
 |_,_=>false
theorem kW {v:V}{x:PyData}(c:scV x=some v):∀{xs:List V}{ds:List PyData},ds.map scV=xs.map some->inV v xs=inD x ds
 |[],[],_=>rfl
 |[],_::_,e=>by cases e
 |_::_,[],e=>by cases e
 |u::xs,d::ds,e=>by
  rw[zM9,zM9]at e;injection e with e1 h;have f:=kW c h;unfold inV inD at f ⊢;rw[zY6,zY6,f,e1,c]
theorem kP {neg:Bool}{x:PyData}{ds:List PyData}(e:rO x=true)(fs:ds.all rO=true):Cmp (rIn X.K neg) x (.tuple ds) (if neg then !inD x ds else inD x ds):=λp H f i R d c h=>by
 obtain⟨ad,xs,rfl,g1,g2⟩:=c.tup_inv;obtain⟨f1,s1⟩:=jh d e;obtain⟨f2,s2⟩:=fL g2 fs;refine⟨ad,xs,rfl,.inr (SqT.of (zj g1).2),f1,f2,?_⟩;rw[kW s1 s2];exact h
end
section
variable {X:Cx}{α:Ev}{p pos:Pos}{a b:Expr}{Q:PyData->Prop}
end
section
variable {X:Cx}{α:Ev}{a e:Expr}{pos p2 p3 p4:Pos}{n1:Nat}{te:TE}
end
def fb (T:Addr)(H:Hp):Prop:=∀b:Addr,H b=none\/b=T\/∃o xs,H b=some (.frz o (.lst xs))
theorem jZ {P:Program}{w:World}{K:PySem.W.Frag}{mg mb:Str->Option Value}{CX:CXT}{k:Nat}{S a T:Addr}{fd:FuncData}{x:Str}{sp:Sp}{c:Shared}{vs:List Value}{ns:List Int}{ps:Array Value}
  (KX:K.In c.heap) (y:c.heap.Ns mainGlobals mg) (hb:c.heap.Ns builtinsNs mb) (O:∀x:Str,x≠"__name__"->mb x=bootBuiltins x) (G:c.heap.NoLimit) (hg:c.gens=#[])
  (ha:c.heap.get? a=some {cls:=.type "list",data:=.seq vs.toArray}) (hi:IntsAre vs ns) (hl:ns.length<=sizeLine) (hr:zI k callerA)
  (A:c.heap.get? T=some (PySem.W.tabObj ps)) (Q:K.lookup T=none) (U:isCodeTable c.heap T)
  (X:∃bm ob,mg "__builtins__"=some (.ref bm)/\bm≠builtinsNs/\c.heap.get? bm=some ob/\ob.cls=.type "module"/\ob.dict=some builtinsNs/\ob.data=.plain)
  (F:∀base:Heap,K.In base->base.Ns mainGlobals mg->base.BuiltinsAt mg T->yE P w K mg base CX k S fd [x] sp) (p:∀(s:Shared) (u:Value),BindsTo s fd ⟨[u],[]⟩ [(x,u)])
  (R:∀H:Hp,fb T H->H T=some (.tbl ps)->SqL K H a (ns.map V.int)->sp [.ref a] H (λv _=>v=.bl true) λ_ _ _=>False)
  (M:∀H e s',CX [] H c (λ_ _ _=>False) e s'->False):
  codeAny (model P w) callerA (.call (.ref S) ⟨[.ref a],[]⟩) (λr s'=>r=.ok (.ret (.bool true))/\OldK c.heap s'.heap/\s'.os=c.os/\AllBare s'.gens) c:=by
 have rv:=jx hi;have C:=hi.length;have B:a≠T:=λz=>by rw[z,A]at ha;cases ha
 have core:∀H:Hp,fb T H->H T=some (.tbl ps)->SqL K H a (ns.map V.int)->HOk P w H c.heap->(∀b,H b≠none->b=a\/b=T)->(H a≠none->K.lookup a=none)->
   codeAny (model P w) callerA (.call (.ref S) ⟨[.ref a],[]⟩) (λr s'=>r=.ok (.ret (.bool true))/\OldK c.heap s'.heap/\s'.os=c.os/\AllBare s'.gens) c:=by
  intro H hO E hS hok Z hK;have f:∀{b:Addr} {o:Obj},c.heap.get? b=some o->H b=none->(rk c.heap H).get? b=some o:=λe n=>ef e n;have L:∀{b:Addr} {o:Obj} {es:Array DictEntry} {ep:Nat},c.heap.get? b=some o->o.data=.dict es ep->H b=none:=λ{b o es ep} e d=>by
   cases q:H b with
   |none=>rfl
   |some u=>
    rcases Z b (by rw[q];simp)with g|g
    ·subst g;rw[ha]at e;cases e;have d':Data.seq vs.toArray _=Data.dict es ep:=d;cases d'
    ·subst g;rw[A]at e;cases e;have d':Data.fields ps=Data.dict es ep:=d;cases d'
  have j:∀{b:Addr} {m:Str->Option Value},c.heap.Ns b m->(rk c.heap H).Ns b m:=λ{b m} Y=>by obtain⟨o,es,ep,e,d,r⟩:=Y;exact⟨o,es,ep,f e (L e d),d,r⟩
  have D:K.In (rk c.heap H):=λb o e=>f (KX b o e) (by
   cases q:H b with
   |none=>rfl
   |some u=>
    rcases Z b (by rw[q];simp)with g|g
    ·subst g;rw[hK (by rw[q];simp)]at e;cases e
    ·subst g;rw[Q]at e;cases e)
  have hM:Mod K mg (rk c.heap H):=⟨D,j y,⟨mb,j hb,O⟩,let⟨mc,h1,h2⟩:=G;⟨mc,j h1,h2⟩⟩;have J:(rk c.heap H).BuiltinsAt mg T:=by
   obtain⟨bm,ob,b1,b2,t,b4,b5,I⟩:=X;have n1:bm≠T:=λz=>by rw[z,A]at t;cases t;cases b4
   have n2:bm≠a:=λz=>by rw[z,ha]at t;cases t;cases I
   have n3:bm≠mainGlobals:=λz=>by
    obtain⟨o,es,ep,e,d,_⟩:=y;rw[z,e]at t;cases t;rw[d]at I;cases I
   exact⟨bm,ob,b1,b2,n3,n1,f t (by
    cases q:H bm with
    |none=>rfl
    |some u=>
          rcases Z bm (by rw[q];simp)with g|g
          ·exact absurd g n2
          ·exact absurd g n1),b4,b5,I⟩
  have e0:uG P w K mg (rk c.heap H) callerA [] c H:=⟨rfl,hM,λb o e=>zb7 e,zL7 (jH _ _),trivial,λb hb=>absurd (show b∈([]:List Addr)from hb) (by simp),hok,.of_eq hg⟩;refine zX7 ((F _ D (j y) J).run callerA [] c H ⟨[.ref a],[]⟩ [.ref a] [.ref a] _ _ hr e0 (p c (.ref a)) (.cons rfl .nil) (R H hO E hS)) λr s' h=>?_;cases r with
  |error e=>exact(M H e s' h).elim
  |ok fl=>
   cases fl with
   |next=>exact False.elim h
   |brk=>exact False.elim h
   |cont=>exact False.elim h
   |ret u=>
    obtain⟨v,H',os,bare,un,l,r',q⟩:=h;have q':v=.bl true:=q;subst q';obtain rfl:u=Value.bool true:=r';have old:∀b o,c.heap.get? b=some o->asItWas c.heap s'.heap b o:=λb o e=>by
     cases q:H b with
     |none=>exact .inl (un.keep b o e q (by intro z;exact absurd (show b∈([]:List Addr)from z) (by simp)) (by simp))
     |some u=>
      rcases hO b with z|z|⟨ob,xs,z⟩
      ·rw[q]at z;cases z
      ·subst z;obtain⟨more,hm⟩:=un.tbls _ _ E;have N:s'.heap.get? b=some {cls:=.none,data:=.fields (ps++more)}:=l _ _ hm;rw[A]at e;cases e;exact .inr (.inl ⟨U,rfl,ps,more,rfl,N⟩)
      ·have z2:=un.frzs b ob _ z;obtain⟨e1,_⟩:=hok b _ z;obtain⟨N,_⟩:=l b _ z2;rw[e]at e1;cases e1;exact .inl N
    refine⟨rfl,⟨old,λb o e=>?_⟩,os,bare⟩;rcases old b o e with z|⟨_,_,_,_,_,z⟩|⟨_,_,⟨o',_,_,z,_⟩,_⟩
    ·exact⟨_,z⟩
    ·exact⟨_,z⟩
    ·exact⟨_,z⟩
 cases hk:K.lookup a with
 |some o=>
  have e:=KX a o hk;rw[ha]at e;cases e;refine core (λb=>if b=T then some (.tbl ps)else none) (λb=>?_) (if_pos rfl) (.inr ⟨_,vs.toArray,_,hk,rfl,rfl,rfl,by rw[zK7,C];exact hl,by simpa using rv⟩) (λb u z=>?_) (λb z=>?_) λz=>absurd (if_neg B) z
  ·by_cases h:b=T
   ·exact .inr (.inl h)
   ·exact .inl (if_neg h)
  ·by_cases h:b=T
   ·have i:=(if_pos h).symm.trans z;cases i;subst h;exact A
   ·have i:=(if_neg h).symm.trans z;cases i
  ·by_cases h:b=T
   ·exact .inr h
   ·exact absurd (if_neg h) z
 |none=>
  refine core (λb=>if b=T then some (.tbl ps)else if b=a then some (.frz {cls:=.type "list",data:=.seq vs.toArray} (.lst (ns.map V.int)))else none) (λb=>?_) (if_pos rfl) (.inl (.inr ⟨{cls:=.type "list",data:=.seq vs.toArray},(if_neg B).trans (if_pos rfl)⟩)) (λb u z=>?_) (λb z=>?_) λ_=>hk
  ·by_cases h:b=T
   ·exact .inr (.inl h)
   ·by_cases hb:b=a
    ·exact .inr (.inr ⟨_,_,(if_neg h).trans (if_pos hb)⟩)
    ·exact .inl ((if_neg h).trans (if_neg hb))
  ·by_cases h:b=T
   ·have i:=(if_pos h).symm.trans z;cases i;subst h;exact A
   ·have z:=(if_neg h).symm.trans z;by_cases hb:b=a
    ·have i:=(if_pos hb).symm.trans z;cases i;subst hb;exact⟨ha,by rw[zI5];exact hl,vs,_,rv,ha⟩
    ·have i:=(if_neg hb).symm.trans z;cases i
  ·by_cases h:b=T
   ·exact .inr h
   ·by_cases hb:b=a
    ·exact .inl hb
    ·exact absurd ((if_neg h).trans (if_neg hb)) z
theorem eV {l:PySem.W.OpenLaw}{n k:Nat}{q:Program}{loose:List Str}{J:(Str->Option Value)->Heap->Prop}{t:World->Heap->Prop}{d:DefRec}{K:Params->PySem.W.Frag}{CX:World->CXT}{sp:World->Sp}{x:Str}{T c:Addr}{ps:Array Value}
  (hn:l.most=some n) (A:n<=sizeLine) (hdf:d.params.defaults=[]) (hr:zI k callerA)
  (N:∀(w:World) (h:Heap),t w h->(K w.params).In h) (B:∀(w:World) (h:Heap),t w h->h.get? T=some (PySem.W.tabObj ps))
  (D:∀w:World,(K w.params).lookup T=none) (m:∀w:World,∃o vs,(K w.params).lookup c=some o/\o.cls=.type "code"/\o.data=.fields vs/\vs[11]?=some (.ref T))
  (F:∀(w:World) (mg:Str->Option Value) (p:Addr) (h:Heap),(K w.params).In h->h.Ns mainGlobals mg->mg d.name=some (.ref p)->
   ∃fd:FuncData,(∀(s:Shared) (u:Value),BindsTo s fd ⟨[u],[]⟩ [(x,u)])/\
    ∀base:Heap,(K w.params).In base->base.Ns mainGlobals mg->base.BuiltinsAt mg T->yE l.prog w (K w.params) mg base (CX w) k p fd [x] (sp w))
  (C:∀(w:World) (H:Hp) (a:Addr) (ns:List Int),ns.length<=n->fb T H->H T=some (.tbl ps)->SqL (K w.params) H a (ns.map V.int)->sp w [.ref a] H (λv _=>v=.bl true) λ_ _ _=>False)
  (y:∀(w:World) (H:Hp) (s:Shared) (e:Value) (s':Shared),CX w [] H s (λ_ _ _=>False) e s'->False):
  PySem.W.WalkO q loose J t l.row.toRowW d [] (λf vs=>PySem.call f vs):=by
 refine Att.attach_call hn hdf λw s₀ j mg mb p o pm cd doc a vs ns G Y R hd P z i hints hlen hg=>?_;have r:=N w _ Y;obtain⟨oc,cv,Q,t3,M,L⟩:=m w;obtain⟨fd,hb,hF⟩:=F w mg p _ r G.T.g z;exact jZ r G.T.g G.T.b G.T.builtins G.T.nolimit hg i hints (zK1 hlen A) hr (B w _ Y) (D w) ⟨c,oc,cv,r _ _ Q,t3,M,L⟩ G.T.bmain hF hb (λH O E I=>C w H a ns hlen O E I) λH e s'=>y w H j e s'
theorem TabAt.same {H H':Hp}(T:TabAt H)(h:∀a o,(∀xs,o≠.lst xs)->H a=some o->H' a=some o):TabAt H':=sF T h
section
variable {X:Cx}{pins:List (Addr×Obj)}{σ:St}{H:Hp}{s:Shared}{h':Heap}
theorem Inv.tblMore {t':Nat}{p:Addr}{ps more:Array Value}{H':Hp}(I:Inv X pins σ H s)(h:H p=some (.tbl ps))(k:∀b u,b≠p->s.heap.get? b=some u->h'.get? b=some u)(e:h'.get? p=some (PySem.W.tabObj (ps++more)))
  (g:H' p=some (.tbl (ps++more))) (d:∀b,b≠p->b<s.heap.objs.size->H' b=H b) (new:∀b o,s.heap.objs.size<=b->H' b=some o->zS X.prog X.w H' h' b o):
  Inv X pins σ H' {s with heap:=h',toks:=t'}:=by
 have ne:∀b,H b=none->b≠p:=λb n z=>by rw[z,h]at n;cases n
 have nt:∀b o,H b=some o->(∀f,o≠.tbl f)->b≠p:=λb o q n z=>by rw[z,h]at q;cases q;exact n _ rfl
 have lt:∀b o,H b=some o->b<s.heap.objs.size:=λb o q=>by
  rcases zN2 b s.heap.objs.size with z|z
  ·exact z
  ·rw[I.hok.fresh z]at q;cases q
 have st:∀b o,H b=some o->(∀f,o≠.tbl f)->H' b=some o:=λb o q n=>by rw[d b (nt b o q n) (lt b o q)];exact q
 refine I.un ⟨λb o q n _ _=>k b o (ne b n) q,λb o q n _ _=>⟨o.slots,k b o (ne b n) q⟩,λb o q n _=>by rw[d b (ne b n) (zJ5 q)];exact n,λb o q _=>?_,λb xs q=>st b _ q (λ_ z=>by cases z),λb o u q=>st b _ q (λ_ z=>by cases z),λb f q=>?_⟩ λb u q=>?_
 ·by_cases z:b=p
  ·exact⟨_,by rw[z];exact e⟩
  ·exact⟨o,k b o z q⟩
 ·by_cases z:b=p
  ·subst z;rw[h]at q;cases q;exact⟨more,g⟩
  ·exact⟨#[],by rw[d b z (lt b _ q),q];simp⟩
 ·by_cases z:b=p
  ·subst z;rw[g]at q;cases q;exact e
  ·rcases zN2 b s.heap.objs.size with l|l
   ·rw[d b z l]at q;refine(I.hok b u q).stay (λc v a r=>k c v (λw=>?_) r) (λc r=>st c _ r λ_ z=>by cases z) λc xs r=>st c _ r λ_ z=>by cases z
    subst w;rcases a with rfl|a
    ·exact z rfl
    ·rw[h]at a;cases a
   ·exact new b u l q
def nC (f c:Addr)(qual:Str)(params:Arguments)(body:Expr)(scope:Scope)(a:List (Str×Addr)):HO:=
 .ext λh=>∃(pm ctv:Value),h.get? f=some (PySem.W.kla_obj "<lambda>" qual params body scope a pm c ctv)
theorem bS {P:Program}{w:World}{H:Hp}{h:Heap}{c:Addr}(r:h.CodeRec (.ref c) xq):zS P w H h c (uV c):=by
 refine⟨r,?_,λd e p k=>?_⟩
 ·obtain⟨c',o,vs,t,e1,a,_⟩:=r;cases e1;exact⟨o,a⟩
 ·obtain⟨c',o,vs,t,e1,a,b⟩:=p;cases e1;exact⟨c,o,vs,t,rfl,k _ a,b⟩
theorem fB {P:Program}{w:World}{H:Hp}{h:Heap}{f c:Addr}{qual:Str}{params:Arguments}{body:Expr}{scope:Scope}{a:List (Str×Addr)}{pm ctv:Value}(r:h.get? f=some (PySem.W.kla_obj "<lambda>" qual params body scope a pm c ctv)):zS P w H h f (nC f c qual params body scope a):=
 ⟨⟨pm,ctv,r⟩,⟨_,r⟩,λg i d k=>by obtain⟨e,b,p⟩:=d;exact⟨e,b,k _ p⟩⟩
theorem mS {pos:Pos}{a b:Int}{c cv:Value}(l:List Value):TriplesOk l->codeAmong pos (l++[rawInt a,rawInt b,c])=some cv->codeAmong pos l=some cv\/cv=c:=by
 induction l using TriplesOk.induct with
 |case1=>
  intro _ h;rw[zV1,rawInt,rawInt,codeAmong.eq_1]at h;split at h
  ·cases h;exact .inr rfl
  ·rw[codeAmong.eq_2 _ _ (by intro _ _ _ _ _ _ z;cases z)]at h;cases h
 |case2 i t j u d rest e=>
  intro ok h;rw[TriplesOk.eq_2]at ok;rw[List.cons_append,List.cons_append,List.cons_append,codeAmong.eq_1]at h;rw[codeAmong.eq_1];split at h
  ·rename_i z;rw[if_pos z];exact .inl h
  ·rename_i z;rw[if_neg z];exact e ok h
 |case3 t f g=>
  intro ok;rw[TriplesOk.eq_3 t f g]at ok;exact ok.elim
theorem cb {params:Arguments}{body:Expr}{scope:Scope}{i:Pos}{g:List (Str×Addr)}{c:Addr}(I:Inv X pins σ H s)(hcl:closureFor scope X.env=pure g)(hgl:X.env.globals=mainGlobals)(hco:X.env.code=.ref c)(hhd:PySem.W.CodeHd X.base c yf)
  (hbi:X.base.BuiltinsAt X.mg yf) (hdf:defaultsOf params X.env=([],[])) (hq:X.env.qual++("<lambda>":Str)=xq) (hne:mainGlobals≠yf) (T:TabAt H) {Q:Value->Shared->Prop}
  (h:∀(f c':Addr) (H':Hp) (s':Shared),Inv X pins σ H' s'->TabAt H'->(∀a o,a≠yf->H a=some o->H' a=some o)->(∀a ps,H a=some (.tbl ps)->∃x,H' a=some (.tbl x))->H f=none->H' f=some (nC f c' xq params body scope g)->H' c'=some (uV c')->Q (.ref f) s'):
  wpAny (model X.prog X.w) X.A (eval (.Lambda params body scope i) X.env) Q X.xe s:=by
 refine PySem.W.kla_eval hdf ?_;rw[hq];obtain⟨ps,t1,C,t3⟩:=T.ex;have E:s.heap.get? yf=some (PySem.W.tabObj ps):=I.hok _ _ t1;have hb:∀b o,X.base.get? b=some o->s.heap.get? b=some o:=λb o e=>(I.bs b o e).1;have p:PySem.W.CodeHd s.heap c yf:=by
  obtain⟨o,vs,f1,f2,f3,f4,S,f6,Z,e1,j⟩:=hhd;exact⟨o,vs,f1,f2,f3,f4,S,f6,Z,hb _ _ e1,j⟩
 have m:s.heap.BuiltinsAt X.mg yf:=by
  obtain⟨bm,o,e1,j,D,R,e5,V⟩:=hbi;exact⟨bm,o,e1,j,D,R,hb _ _ e5,V⟩
 have y:s.heap.Ns mainGlobals X.mg:=by
  obtain⟨o,es,ep,e,d,r⟩:=I.ok.mod.glob;exact⟨o,es,ep,hb _ _ e,d,r⟩
 cases hc:codeAmong i ps.toList with
 |none=>
  refine PySem.W.kla_makeFunction hcl hgl y hco p E C hc hne m λc' ctv h' tk ex l1 l2 cr ht=>?_;have Y:c'<(h'.push (PySem.W.kla_obj "<lambda>" xq params body scope g ((X.mg "__name__").getD Value.none) c' ctv)).objs.size:=by rw[size_push'];exact zI9 l2 (zL0 _ _)
  have n1:(c':Addr)≠h'.objs.size:=zK2 l2;have q:yf<s.heap.objs.size:=zJ5 E;have n2:(c':Addr)≠yf:=zT6 (zI9 q l1);have lf:s.heap.objs.size<=h'.objs.size:=zN6 (zK9 l1 l2);have n3:(h'.objs.size:Addr)≠yf:=zT6 (zI9 q lf)
  let n:Hp:=upd (upd (upd H h'.objs.size (nC h'.objs.size c' xq params body scope g)) c' (uV c')) yf (.tbl (ps++#[rawInt ↑i.line,rawInt ↑i.col,Value.ref c']))
  have G:n yf=some (.tbl (ps++#[rawInt ↑i.line,rawInt ↑i.col,Value.ref c'])):=zk;have eC:n c'=some (uV c'):=by show upd _ _ _ _=_;rw[zh n2,zk]
  have L:n h'.objs.size=some (nC h'.objs.size c' xq params body scope g):=by show upd _ _ _ _=_;rw[zh n3,zh n1.symm,zk]
  have old:∀b,b≠yf->b<s.heap.objs.size->n b=H b:=λb nb v=>by
   show upd _ _ _ _=_;rw[zh nb,zh (zK2 (zI9 v l1)),zh (zK2 (zI9 v lf))]
  have F:Inv X pins σ n {s with heap:=h'.push (PySem.W.kla_obj "<lambda>" xq params body scope g ((X.mg "__name__").getD Value.none) c' ctv),toks:=tk}:=by
   refine I.tblMore (more:=#[rawInt ↑i.line,rawInt ↑i.col,Value.ref c']) t1 (λb u nb e=>zI4 _ (ex b u nb e)) (zI4 _ ht) G old λb o v e=>?_;by_cases K:b=h'.objs.size
   ·subst K;rw[L]at e;cases e;exact fB (zJ4 _ rfl)
   ·by_cases J:b=c'
    ·subst J;rw[eC]at e;cases e;obtain⟨M,o,vs,t,e1,j,D⟩:=cr;cases e1;exact bS ⟨_,o,vs,t,rfl,zI4 _ j,D⟩
    ·have nb:b≠yf:=λz=>absurd v (Nat.not_le_of_lt (z▸q));have P:n b=H b:=by show upd _ _ _ _=_;rw[zh nb,zh J,zh K]
     rw[P,I.hok.fresh v]at e;cases e
  have stay:∀a o,a≠yf->H a=some o->n a=some o:=λa o no e=>by
   have U:a<s.heap.objs.size:=by
    rcases zN2 a s.heap.objs.size with z|z
    ·exact z
    ·rw[I.hok.fresh z]at e;cases e
   rw[old a no U];exact e
  refine h _ c' n _ F ⟨_,G,?_,λpos cv B=>?_⟩ stay (λa x e=>?_) (I.hok.fresh lf) L eC
  ·rw[zM2];exact TriplesOk_snoc _ _ _ _ C
  ·rw[zM2]at B;rcases mS _ C B with z|z
   ·obtain⟨M,rfl,j⟩:=t3 _ _ z;exact⟨M,rfl,stay _ _ (λz=>by rw[z,t1]at j;cases j) j⟩
   ·exact⟨c',z,eC⟩
  ·by_cases O:a=yf
   ·exact⟨_,by rw[O];exact G⟩
   ·refine⟨x,?_⟩;rw[old a O (by
     rcases zN2 a s.heap.objs.size with z|z
     ·exact z
     ·rw[I.hok.fresh z]at e;cases e)]
    exact e
 |some cv=>
  obtain⟨c',rfl,N⟩:=t3 _ _ hc;refine PySem.W.kla_makeFunctionHit hcl hgl y hco p E C hc m λctv h' tk k l=>?_;have hf:H h'.objs.size=none:=I.hok.fresh l;have k2:∀b u,s.heap.get? b=some u->(h'.push (PySem.W.kla_obj "<lambda>" xq params body scope g ((X.mg "__name__").getD Value.none) c' ctv)).get? b=some u:=λb u e=>zI4 _ (k b u e);have F:=I.laid (t':=tk) (o:=nC h'.objs.size c' xq params body scope g) k2 l (fB (zJ4 _ rfl));have n1:∀a o,H a=some o->a≠h'.objs.size:=λa o e z=>by rw[z,hf]at e;cases e
  refine h _ c' _ _ F (T.same λa o _ e=>by rw[zh (n1 a o e)];exact e) (λa o _ e=>by rw[zh (n1 a o e)];exact e) (λa x e=>⟨x,by rw[zh (n1 a _ e)];exact e⟩) hf zk ?_;rw[zh (n1 _ _ N)];exact N
end
structure xN (x y:Str)(params:Arguments)(scope:Scope):Prop where
 kind:scope.kind=.function
 co:scope.isCoroutine=false
 gen:scope.isGenerator=false
 px:scope.names.lookup x=some .local
 py:scope.names.lookup y=some .free
 nocell:∀z∈scope.names,z.2≠NameKind.cell
 only:∀z∈scope.names,z.2=NameKind.free->z.1=y
 ne:x≠y
def oq (P:Program)(w:World)(K:PySem.W.Frag)(mg:Str->Option Value)(base:Heap)(x y:Str)(scope:Scope)(f c cl:Addr)(A:Around)(outer:List Env)(s:Shared)(H:Hp):Cx where
 prog:=P
 w:=w
 K:=K
 mg:=mg
 base:=base
 A:=A.deeper (PySem.W.envX xq scope s.heap.objs.size f (.ref c) [(y,cl)])
 N:=[x,y]
 s₀:=s
 H₀:=H
 env:=PySem.W.envX xq scope s.heap.objs.size f (.ref c) [(y,cl)]
 outer:=outer
 stack:=PySem.W.envX xq scope s.heap.objs.size f (.ref c) [(y,cl)]::outer
 ex:=[]
 calm:=true
 fn:=λ_=>false
 pn:=[]
 xe:=λ_ _=>False
theorem jv {P:Program}{w:World}{K:PySem.W.Frag}{mg:Str->Option Value}{base:Heap}{x y:Str}{params:Arguments}{scope:Scope}{f c cl:Addr}{A:Around}{outer:List Env}{s:Shared}{H:Hp}{h':Heap}{tk:Nat}{v l:V}{u ul:Value}
  (S:xN x y params scope) (hd:A.handled=none) (m:uG P w K mg base A outer s H) (C:RelV v u) (t:RelV l ul) (hcl:s.heap.IsCell cl (some ul)) (r:H cl=none)
  (ns:h'.Ns s.heap.objs.size λz=>[(x,u)].reverse.lookup z) (k:∀b o,s.heap.get? b=some o->h'.get? b=some o):
  Inv (oq P w K mg base x y scope f c cl A outer s H) [] [some v,some l] H {s with heap:=h',toks:=tk}:=by
 have q:∀b:Addr,b∉(oq P w K mg base x y scope f c cl A outer s H).ex:=λb z=>absurd (show b∈([]:List Addr)from z) (by simp);have one:∀z d,(oq P w K mg base x y scope f c cl A outer s H).env.cells.lookup z=some d->z=y/\d=cl:=λz d h=>by
  have h:List.lookup z [(y,cl)]=some d:=h;rw[zO0]at h;split at h
  ·rename_i e;cases h;exact⟨eq_of_beq e,rfl⟩
  ·cases h
 have hit:(oq P w K mg base x y scope f c cl A outer s H).env.cells.lookup y=some cl:=by
  show List.lookup y [(y,cl)]=some cl;simp[zO0]
 have j:h'.IsCell cl (some ul):=by
  obtain⟨o,e1,B⟩:=hcl;exact⟨o,k _ _ e1,B⟩
 refine⟨⟨m.mod,S.kind,rfl,rfl,zJ0 _,λa b d g n=>(one a d g).1.trans (one b d n).1.symm,λz hz=>?_,λz d hf _=>?_,λ_=>hd,Around.frames_deeper m.frames,.inr ⟨rfl,rfl⟩,λb z=>absurd z (q b),m.bs,m.bsz,λb _ _=>q b,λb z=>absurd z (q b),m.funs,m.frf⟩,
  rfl,m.bare,Un.kept k,⟨_,ns,λi z E g n F=>?_⟩,λz d h=>?_,m.hok.fresh (zJ0 _),λz d h=>?_,λp D=>absurd (show p∈([]:List (Addr×Obj))from D) (by simp),m.hok.kept k,rfl⟩
 ·have hz:scope.names.lookup z=some .cell\/scope.names.lookup z=some .free:=hz;rcases hz with hz|hz
  ·exact absurd rfl (S.nocell _ (zP2 hz))
  ·have:z=y:=S.only _ (zP2 hz) rfl;subst this;exact⟨cl,hit⟩
 ·exact absurd (show false=true from hf) zL3
 ·have g:([x,y]:List Str)[i]?=some z:=g
  match i,g,n with
  |0,g,n=>
   cases g;cases n;exact⟨u,C,.inl ⟨S.px,by simp[zO0]⟩⟩
  |1,g,n=>
   cases g;cases n;exact⟨ul,t,.inr ⟨.inr S.py,cl,hit,j⟩⟩
  |i+2,g,n=>simp at g
 ·obtain⟨rfl,rfl⟩:=one z d h;exact⟨_,j⟩
 ·obtain⟨rfl,rfl⟩:=one z d h;exact r
theorem bH {P:Program}{w:World}{K:PySem.W.Frag}{mg:Str->Option Value}{base:Heap}{x y:Str}{params:Arguments}{body:Expr}{scope:Scope}{f c cl:Addr}{A:Around}{outer:List Env}{s:Shared}{H:Hp}{v l:V}{u ul:Value}{k:Nat}{Q:VK}{t:TE}
  (S:xN x y params scope) (hr:zI k A) (a:uG P w K mg base A outer s H) (hf:H f=some (nC f c xq params body scope [(y,cl)])) (p:H c=some (uV c)) (hcl:s.heap.IsCell cl (some ul)) (g:H cl=none) (r:RelV v u) (n:RelV l ul)
  (hb:∀pm ctv,bindArgs (PySem.W.kla_fn "<lambda>" xq params body scope [(y,cl)] pm (.ref c) ctv) ⟨[u],[]⟩=pure [(x,u)])
  (B:PE (oq P w K mg base x y scope f c cl A outer s H) body t) (hq:t [some v,some l] H Q):
  codeAny (model P w) A (.call (.ref f) ⟨[u],[]⟩) (CR CX0 outer P w H s Q E0) s:=by
 obtain⟨⟨pm,ctv,j⟩,_,_⟩:=a.hok _ _ hf;have cr:s.heap.CodeRec (.ref c) xq:=(a.hok _ _ p).1;have lim:s.heap.NoLimit:=a.mod.nolimit.keeps λb o e=>(a.bs b o e).1;refine PySem.W.kla_callFunE hr.depth j rfl S.co S.gen rfl cr ?_;rw[hb];refine zI6 ?_;refine wpAny_newFunctionEnv S.nocell (λz hz=>?_) (λh' ns sb=>?_) S.kind
 ·rw[zK3.mp hz];exact S.px
 ·have h:∀b o,s.heap.get? b=some o->h'.get? b=some o:=λb o e=>sb.extBut b o (zK2 (zJ5 e)) (zI4 _ e);refine⟨lim.keeps h,PySem.W.kla_codeExpr ?_⟩;have I:=jv (tk:=s.toks+[(x,u)].length) (f:=f) (c:=c) S hr.hd a r n hcl g ns h;refine zN9 (B [] _ _ H _ I hq) (λC s' d=>?_) λe s' d=>d.elim;obtain⟨m,H',J,i,q⟩:=d;exact⟨m,H',J.os,J.bare,J.base,J.hok,i,q⟩
open PySem.W SortA
section
variable {X:Cx}{pins:List (Addr×Obj)}{σ:St}{H:Hp}{s:Shared}
def fY (X:Cx)(H1 a:Hp)(s1 s2:Shared):Prop:=∀b o,s1.heap.get? b=some o->H1 b=none->b∉frs X.stack->s2.heap.get? b=some o/\a b=none
structure dn (X:Cx)(pins:List (Addr×Obj))(σ:St)(H:Hp)(D kS:Addr)(e1:Nat)(ps:List (Int×Int))(i:Nat)(s':Shared):Prop where
 ex:∃(H':Hp) (ks:List Value) (xs:List V) (e:Nat),Inv X pins σ H' s'/\(∀a o,H a=some o->H' a=some o)/\s'.heap.get? D=some (seqObj "list" #[] e1)/\s'.heap.get? kS=some (seqObj "list" ks.toArray e)/\H' D=none/\H' kS=none/\Vals xs ks/\PrV H' xs (ps.take i)
theorem iM {A:Around}{E:Value->Shared->Prop}{vs:List Value}{ps:List (Int×Int)}{f D kS:Addr}{e1:Nat}{Q:PUnit->Shared->Prop}(hlen:vs.length=ps.length)(T:vs.length<64)(P:D∉frs X.stack)(W:kS∉frs X.stack)(hne:D≠kS)
  (O:∀H',H' kS=none->yT X pins H' kS)
  (c:∀i v,vs[i]?=some v->∀H1 s1,Inv X pins σ H1 s1->(∀a o,H a=some o->H1 a=some o)->
   wpAny (model X.prog X.w) A (call (.ref f) [v]) (λu s2=>∃t d,u=.ref t/\Inv X pins σ d s2/\(∀a o,H1 a=some o->d a=some o)/\d t=some (.tup [.int (at2 ps i).1,.int (at2 ps i).2])/\fY X H1 d s1 s2) (λ_ _=>False) s1)
  (h0:dn X pins σ H D kS e1 ps 0 s) (Z:∀s',dn X pins σ H D kS e1 ps vs.length s'->Q PUnit.unit s'):
  wpAny (model X.prog X.w) A (forIn vs PUnit.unit λx __s=>do
   let __do_lift <-(call (.ref f) [x]).attempt
   match __do_lift with
    |Except.ok k=>do
     Builtin.List.listUpdate (.ref kS) λx=>x.push k
     pure (ForInStep.yield PUnit.unit)
    |Except.error e=>do
     rule "list.sort.key-raised"
     let made <-Builtin.List.listItems (.ref kS)
     Builtin.List.listUpdate (.ref kS) λx=>#[]
     letGo made.toList.reverse [e]
     Builtin.List.listUpdate (Value.ref D) λx=>vs.toArray
     throw e
     pure (ForInStep.yield PUnit.unit)) Q E s:=by
 refine ksk_fold (dn X pins σ H D kS e1 ps) vs 0 s h0 (λj x s' K B=>?_) (λs' B=>Z s' (by simpa using B));obtain⟨H1,ks,xs,e,S,st,U,Y,R,F,J,pr⟩:=B.ex;rw[Nat.zero_add]at pr ⊢;have h:j<ps.length:=by rw[<-hlen];exact(zI8.mp K).1
 have m:ks.length=j:=by rw[<-J.length,pr.len,zO9];lia
 refine zI3 (zU4 (zN9 (c j x K H1 s' S st) (λu s2 M=>?_) λ_ _ z=>z.elim));obtain⟨t,d,rfl,N,g,G,kp⟩:=M;obtain⟨r,C⟩:=kp D _ U R P;obtain⟨n,l⟩:=kp kS _ Y F W;refine zI3 (zV5 n rfl (zI6 ⟨rfl,?_⟩) (by rw[zK7,m,zO7];lia) (by rw[Array.size_push,zK7,m,zO7];lia));obtain⟨y,hk⟩:∃y,(s2.heap.update kS (Obj.mapSeq λx=>x.push (Value.ref t))).get? kS=some (seqObj "list" (ks++[Value.ref t]).toArray y):=by
  have:=zR1 n λx=>x.push (Value.ref t);rw[List.push_toArray]at this;exact⟨_,this⟩
 have I:∀b o,b∉[kS]->s2.heap.get? b=some o->(s2.heap.update kS (Obj.mapSeq λx=>x.push (Value.ref t))).get? b=some o:=λb o nb q=>(zN5 _ _ (zN4 (by simpa using nb))).trans q;refine⟨d,ks++[Value.ref t],xs++[V.ref t],y,N.turnL (t':=s2.toks) I (λb hb=>by rw[zK3.mp hb];exact O d l),λa o q=>g a o (st a o q),I D _ (by simpa using hne) r,hk,C,l,J.append (.cons rfl .nil),?_⟩;rw[zQ8,zI7 h];refine PrV.app (pr.keep λa p q z=>g _ _ z) ?_;have L:at2 ps j=ps[j]:=by unfold at2;rw[zJ7,zI7 h];rfl
 rw[L]at G;exact .cons G .nil
theorem mL {A:Around}{E:Value->Shared->Prop}{vs:List Value}{ps:List (Int×Int)}{f D:Addr}{n:Nat}{S:PySem.Fin->Shared->Prop}(I:Inv X pins σ H s)(N:s.heap.get? D=some (seqObj "list" vs.toArray n))(hlen:vs.length=ps.length)(k:vs.length<64)(fD:H D=none)
  (nD:D∉frs X.stack) (J:∀H',H' D=none->yT X pins H' D)
  (B:∀i v,vs[i]?=some v->∀H1 s1,Inv X pins σ H1 s1->(∀a o,H a=some o->H1 a=some o)->
   wpAny (model X.prog X.w) A (call (.ref f) [v]) (λu s2=>∃t T,u=.ref t/\Inv X pins σ T s2/\(∀a o,H1 a=some o->T a=some o)/\T t=some (.tup [.int (at2 ps i).1,.int (at2 ps i).2])/\fY X H1 T s1 s2) (λ_ _=>False) s1)
  (h:∀out H' s' c,Srt vs ps out->Inv X pins σ H' s'->(∀a o,H a=some o->H' a=some o)->s'.heap.get? D=some (seqObj "list" out.toArray c)->H' D=none->S (.done (.ret .none)) s'):
  wpAny (model X.prog X.w) A (ksk_tree D (.ref f) false) S E s:=by
 have hD:D<s.heap.objs.size:=zJ5 N;have s1:=zQ9 s.heap D (Obj.mapSeq λ_=>(#[]:Array Value));obtain⟨e1,y⟩:∃e1,(s.heap.update D (Obj.mapSeq λ_=>(#[]:Array Value))).get? D=some (seqObj "list" #[] e1):=⟨_,zR1 N λ_=>#[]⟩;have r:(s.heap.update D (Obj.mapSeq λ_=>(#[]:Array Value))).objs.size=s.heap.objs.size:=zY4 _ _ _;unfold ksk_tree;refine zI3 (listItems_at N rfl ?_);refine zI3 (zV5 N rfl ?_ (by rw[zK7,zO7];exact jX k) (zJ8 _));generalize a0:s.heap.update D (Obj.mapSeq λ_=>(#[]:Array Value))=h1 at s1 y r;refine zI3 (seqEpoch_at y rfl ?_);refine zI3 (zX8 ?_ (by show vs.length<=_;rw[zO7];exact jX k));refine zI3 (zY8 ?_ (zJ8 _));refine zN7 ?_;show wpAny (model X.prog X.w) A (ksk_rest D (.ref f) false vs.toArray e1 (.ref (h1.push (seqObj "tuple" vs.toArray 0)).objs.size)) S E {s with heap:=(h1.push (seqObj "tuple" vs.toArray 0)).push (seqObj "list" #[] 0)};have K:(h1.push (seqObj "tuple" vs.toArray 0)).objs.size=s.heap.objs.size+1:=by rw[size_push',r]
 have C:((h1.push (seqObj "tuple" vs.toArray 0)).push (seqObj "list" #[] 0)).get? (h1.push (seqObj "tuple" vs.toArray 0)).objs.size=some (seqObj "list" #[] 0):=zJ4 _ rfl;have F:((h1.push (seqObj "tuple" vs.toArray 0)).push (seqObj "list" #[] 0)).get? D=some (seqObj "list" #[] e1):=zI4 _ (zI4 _ y);have k1:∀b o,b∉[D]->s.heap.get? b=some o->((h1.push (seqObj "tuple" vs.toArray 0)).push (seqObj "list" #[] 0)).get? b=some o:=λb o hb e=>
  zI4 _ (zI4 _ ((s1.2 b (by simpa using hb)).trans e))
 have I0:Inv X pins σ H {s with heap:=(h1.push (seqObj "tuple" vs.toArray 0)).push (seqObj "list" #[] 0),toks:=s.toks}:=I.turnL k1 λb hb=>by rw[zK3.mp hb];exact J H fD
 generalize (h1.push (seqObj "tuple" vs.toArray 0)).push (seqObj "list" #[] 0)=O at C F k1 I0;generalize a5:(h1.push (seqObj "tuple" vs.toArray 0)).objs.size=kS at K C;have M:s.heap.objs.size<=kS:=by rw[K];exact zT5 _
 have fK:∀H',H' kS=none->yT X pins H' kS:=λH' hn=>I.fpOk M hn;have nK:(kS:Addr)∉frs X.stack:=λz=>by
  rcases zJ1.mp (I.stkSub _ z)with q|q
  ·exact(I.fpOk (H':=λ_=>none) M rfl).2.1 q
  ·exact(I.fpOk (H':=λ_=>none) M rfl).2.2.1 q
 have hne:D≠kS:=zK2 (zI9 hD M);have Y:H kS=none:=I.hok.fresh M;unfold ksk_rest;refine zI3 (zR7 ?_);rw[z39];refine zI3 (iM (s:={s with heap:=O}) hlen k nD nK hne fK B ⟨H,[],[],0,I0,λ_ _ q=>q,F,C,fD,Y,.nil,.nil⟩ λs' hI=>?_);obtain⟨H1,ks,xs,e,I1,st,eD,eK,G,W,rv,pr⟩:=hI.ex;rw[hlen,zO4]at pr;have j:ks.length=vs.length:=by rw[<-rv.length,pr.len,hlen]
 refine zI3 (listItems_at eK rfl ?_);unfold ksk_end;dsimp only;rw[if_neg (by decide)];have P:Prs s'.heap ks ps:=pr.prs I1 rv;have tail:∀(st':SortSt) (out:List Value),out.length<=64->Srt vs ps out->failedOf st'=none->(arrOf st').map (·.2)=out.toArray->wpAny (model X.prog X.w) A (ksk_tail D false e1 (.ref kS) st') S E s':=by
  intro st' out lo so hf L;unfold ksk_tail;dsimp only;rw[L,hf];refine zI3 (zV5 eK rfl ?_ (by rw[zK7,j,zO7];exact jX k) (zJ8 _));have s3:=zQ9 s'.heap kS (Obj.mapSeq λ_=>(#[]:Array Value));have m:(s'.heap.update kS (Obj.mapSeq λ_=>(#[]:Array Value))).get? D=some (seqObj "list" #[] e1):=(s3.2 D hne).trans eD;have I3:Inv X pins σ H1 {s' with heap:=s'.heap.update kS (Obj.mapSeq λ_=>(#[]:Array Value)),toks:=s'.toks}:=I1.turnL (ch:=[kS]) (λb o hb q=>(s3.2 b (by simpa using hb)).trans q) λb hb=>by rw[zK3.mp hb];exact fK H1 W
  generalize s'.heap.update kS (Obj.mapSeq λ_=>(#[]:Array Value))=h3 at m I3;refine zI3 (wpAny_letGo ?_);refine zI3 (seqEpoch_at m rfl ?_);rw[if_neg (by decide)];refine zI3 (zV5 m rfl ?_ (zJ8 _) (by rw[zK7,zO7];lia));have s4:=zQ9 h3 D (Obj.mapSeq λ_=>out.toArray);obtain⟨c4,Z⟩:∃c4,(h3.update D (Obj.mapSeq λ_=>out.toArray)).get? D=some (seqObj "list" out.toArray c4):=⟨_,zR1 m λ_=>out.toArray⟩;simp only[bne_self_eq_false,zR5,zY2];have I4:=I3.turnL (ch:=[D]) (t':=s'.toks) (h':=h3.update D (Obj.mapSeq λ_=>out.toArray)) (λb o hb q=>(s4.2 b (by simpa using hb)).trans q) λb hb=>by rw[zK3.mp hb];exact J H1 G
  exact zI6 (h out H1 _ c4 so I4 st Z G)
 by_cases g:vs.toArray.size<2
 ·rw[if_pos g,if_pos g];have U:vs.length<2:=by simpa using g
  refine zI3 (zI6 ?_);refine zI3 (zI6 ?_);dsimp only;have so:Srt vs ps vs:=by
   match vs,ps,U,hlen with
   |[],[],_,_=>exact⟨[],rfl,rfl,λ_ h=>by simp at h,.refl _,.nil⟩
   |[v],[p],_,_=>exact⟨[0],rfl,rfl,λi h=>by simp at h;subst h;simp,.refl _,by simp⟩
   |_::_::_,_,U,_=>simp only[zM0]at U;exact(zC1 U).elim
  refine tail _ vs (by lia) so rfl ?_;rw[if_neg (by decide)];show(ks.toArray.zip vs.toArray).map (·.2)=vs.toArray;apply Array.toList_inj.mp;rw[Array.toList_map,Array.toList_zip];exact List.map_snd_zip (zL7 j.symm)
 ·rw[if_neg g,if_neg g,if_neg (by decide)];have O:2<=vs.length:=by simp at g;exact g
  have ask:=mj (prog:=X.prog) (w:=X.w) (A:=A) (s:=s') (by rw[j];exact O) P
   (R:=λp l=>Srt vs ps (p.toList.map λi=>vs.getD i Value.none)/\l=s') (λix a b c d=>⟨⟨ix,by simp,a,b,c,d⟩,rfl⟩)
  refine zI3 (zN9 ask (λκ s0 hk=>?_) λ_ _ x=>x.elim);rw[j]at hk;refine zI3 (zN9 (kat_run (Q:=λst' l=>∃p:Array Nat,p.size=vs.length/\arrOf st'=p.map (kas_item (ks.toArray.zip vs.toArray))/\failedOf st'=none/\Srt vs ps (p.toList.map λi=>vs.getD i Value.none)/\l=s')
   j O k (λp' st' l a1 a2 a3 a4=>⟨p',a1,a2,a3,a4⟩) hk) ?_ λ_ _ e=>e)
  rintro⟨⟨⟩,st'⟩ l ⟨p,hp,V,hf,so,rfl⟩;dsimp only;exact tail st' _ (by rw[so.len,<-hlen];exact zN6 k) so hf (kat_snds j V)
end
section
variable {X:Cx}{pins:List (Addr×Obj)}{σ:St}{H:Hp}{s:Shared}
theorem Inv.adopt {D:Addr}{o:HO}(I:Inv X pins σ H s)(fp:yT X pins H D)(new:zS X.prog X.w (upd H D o) s.heap D o):Inv X pins σ (upd H D o) s:=by
 have a:=fp.1;have st:∀b u,H b=some u->upd H D o b=some u:=λb u e=>by rw[zh (zl e a)];exact e
 have:=I.step (g':=s.gens) (t':=s.toks) (d':=s.drawn) (h':=s.heap) (H':=upd H D o) (ch:=[D]) (λb hb=>by rw[zK3.mp hb];exact⟨fp.2.2.2.1,fp.2.1,fp.2.2.2.2.1,fp.2.2.2.2.2⟩) (λb u _ _ _ e _=>e) (λb u _ _ _ e _=>⟨u.slots,e⟩) (λb u hb e n=>by rw[zh (by simpa using hb)];exact n)
  (λb u _ e=>⟨u,e⟩) (λb xs e=>st b _ e) (λb u xs e=>st b _ e) (λb ps e=>⟨#[],by rw[st b _ e];simp⟩) (λm hm=>hm) (λb u e=>?_) I.bare
 ·exact this
 ·by_cases hb:b=D
  ·subst hb;rw[zk]at e;cases e;exact new
  ·rw[zh hb]at e;exact(I.hok b u e).stay (λc v _ q=>q) (λc q=>st c _ q) λc xs q=>st c _ q
theorem qZ {A:Around}{E:Value->Shared->Prop}{l f:Addr}{vs:List Value}{ps:List (Int×Int)}{Q:Value->Shared->Prop}(I:Inv X pins σ H s)(B:s.heap.IsList l vs.toArray)(hlen:vs.length=ps.length)(g:vs.length<64)
  (d:∀i v,vs[i]?=some v->∀H1 s1,Inv X pins σ H1 s1->(∀a o,H a=some o->H1 a=some o)->
   wpAny (model X.prog X.w) A.in1.in1 (call (.ref f) [v]) (λu s2=>∃t r,u=.ref t/\Inv X pins σ r s2/\(∀a o,H1 a=some o->r a=some o)/\r t=some (.tup [.int (at2 ps i).1,.int (at2 ps i).2])/\fY X H1 r s1 s2) (λ_ _=>False) s1)
  (h:∀D out H' s' c,s.heap.objs.size<=D->Srt vs ps out->Inv X pins σ H' s'->(∀a o,H a=some o->H' a=some o)->s'.heap.get? D=some (seqObj "list" out.toArray c)->H' D=none->yT X pins H' D->Q (.ref D) s'):
  wpAny (model X.prog X.w) A (call (.builtin "sorted") [.ref l] [("key",.ref f)]) Q E s:=by
 refine call_function_entry_kw kind_sorted plain_sorted entry_sorted (ksk_s1 _ _) ?_;unfold Builtin.«sorted»;refine zI3 (m:=checkCount "sorted" 1 1 _) (zI6 ?_);refine zI3 (collect_list B ?_ (by rw[zO7];exact jX g));refine zI3 (zY8 ?_ (by rw[zO7];exact jX g));have j:((s.heap.push (seqObj "list" #[] 0)).update s.heap.objs.size (Obj.mapSeq (·++vs.toArray))).objs.size=s.heap.objs.size+1:=by rw[zY4,size_push']
 have p:(((s.heap.push (seqObj "list" #[] 0)).update s.heap.objs.size (Obj.mapSeq (·++vs.toArray))).push (seqObj "list" vs.toArray 0)).get? (s.heap.objs.size+1)=some (seqObj "list" vs.toArray 0):=by rw[<-j];exact zJ4 _ rfl
 have keep:∀b o,s.heap.get? b=some o->(((s.heap.push (seqObj "list" #[] 0)).update s.heap.objs.size (Obj.mapSeq (·++vs.toArray))).push (seqObj "list" vs.toArray 0)).get? b=some o:=λb o q=>by
  have k:b<s.heap.objs.size:=zJ5 q;rw[zV6 _ _ _ (by rw[j];exact zK2 (zP4 k)),Heap.get?_update_ne _ _ _ _ (zK2 k),zV6 _ _ _ (zK2 k)];exact q
 show wpAny _ _ _ _ _ {s with heap:=((s.heap.push (seqObj "list" #[] 0)).update s.heap.objs.size (Obj.mapSeq (·++vs.toArray))).push (seqObj "list" vs.toArray 0)};rw[j];have y:Inv X pins σ H {s with heap:=((s.heap.push (seqObj "list" #[] 0)).update s.heap.objs.size (Obj.mapSeq (·++vs.toArray))).push (seqObj "list" vs.toArray 0),toks:=s.toks}:=I.kept keep;have n:s.heap.objs.size<=s.heap.objs.size+1:=zT5 _;refine zI3 (zN7 (wpAny_call_entry_kw slot_list_sort ⟨_,p,rfl⟩ entry_list_sort ?body (ksk_l1 _ _)))
 case body=>
  rw[ksk_t1];refine mL (s:={s with heap:=((s.heap.push (seqObj "list" #[] 0)).update s.heap.objs.size (Obj.mapSeq (·++vs.toArray))).push (seqObj "list" vs.toArray 0)}) y p hlen g (I.hok.fresh n) (λz=>?_) (λH' hn=>I.fpOk n hn) d λout H' s' c so C st e x=>?_
  ·rcases zJ1.mp (I.stkSub _ z)with q|q
   ·exact(I.fpOk (H':=λ_=>none) n rfl).2.1 q
   ·exact(I.fpOk (H':=λ_=>none) n rfl).2.2.1 q
  ·exact⟨_,rfl,zI6 ⟨_,rfl,h _ out H' s' c n so C st e x (I.fpOk n x)⟩⟩
end
section
variable {X:Cx}{a:Expr}{p pos kpos lpos p1 p2 p3 p4 p5 p6:Pos}{n1:Nat}{x y:Str}{params:Arguments}{scope:Scope}
abbrev pairE (x y:Str)(n1:Nat)(p1 p2 p3 p4 p5 p6:Pos):Expr:=.Tuple [.Subscript (.Name y p1) (.Name x p2) p3,.UnaryOp .USub (.Name x p4) p5] n1 p6
def keyOf (zs:List Int)(n:Int):Int×Int:=(zs.getD n.toNat 0,-n)
theorem aq {P:Program}{w:World}{K:PySem.W.Frag}{mg:Str->Option Value}{base:Heap}{f c cl l:Addr}{A:Around}{outer:List Env}{s:Shared}{H:Hp}{u ul:Value}{k:Nat}{n:Int}{zs:List Int}
  (S:xN x y params scope) (hr:zI k A) (e:uG P w K mg base A outer s H) (hf:H f=some (nC f c xq params (pairE x y n1 p1 p2 p3 p4 p5 p6) scope [(y,cl)])) (m:H c=some (uV c)) (hcl:s.heap.IsCell cl (some ul)) (b:H cl=none) (q:RelV (.int n) u) (g:RelV (.ref l) ul)
  (hb:∀pm ctv,bindArgs (PySem.W.kla_fn "<lambda>" xq params (pairE x y n1 p1 p2 p3 p4 p5 p6) scope [(y,cl)] pm (.ref c) ctv) ⟨[u],[]⟩=pure [(x,u)])
  (hdx:(x == ("__debug__":Str))=false) (hdy:(y == ("__debug__":Str))=false) (hcx:(x == ("__classdict__":Str))=false) (hcy:(y == ("__classdict__":Str))=false)
  (h:SqL K H l (zs.map V.int)) (h0:0<=n) (o:n<zs.length):
  codeAny (model P w) A (.call (.ref f) ⟨[u],[]⟩) (CR CX0 outer P w H s (λv H'=>∃t,v=.ref t/\H t=none/\H'=upd H t (.tup [.int (keyOf zs n).1,.int (keyOf zs n).2])) E0) s:=by
 obtain⟨j,rfl⟩:=z05 h0;have d:j<zs.length:=(om9 o);refine bH S hr e hf m hcl b q g hb (t:=_) (fh (zE (vc xh (yX (i:=1) rfl (Or.inr (Or.inr S.py)) hdy hcy) (yX (i:=0) rfl (Or.inl S.px) hdx hcx) (λ_ _=>rfl)) (zE (zg4 dw (yX (i:=0) rfl (Or.inl S.px) hdx hcx)) yp))) ?_;refine⟨_,rfl,_,rfl,l,_,_,.int (zs.getD j 0),rfl,rfl,h,wR ?_,_,rfl,_,rfl,(by show 2<=sizeLine;decide),λt r=>⟨t,rfl,r,?_⟩⟩
 ·rw[zK0,zI7 d,zJ7,zI7 d];rfl
 ·simp[keyOf]
def tj (ns zs ms:List Int):Prop:=ms.Perm ns/\ms.Pairwise λm k=>lx (keyOf zs k) (keyOf zs m)=false
theorem cn {ns zs:List Int}{vs out:List Value}(r:Vals (ns.map V.int) vs)(h:Srt vs (ns.map (keyOf zs)) out):∃ms,tj ns zs ms/\Vals (ms.map V.int) out:=by
 obtain⟨b,rfl,e,hb,c,hw⟩:=h;have at_:∀i∈b,at2 (ns.map (keyOf zs)) i=keyOf zs (ns.getD i 0):=λi hi=>by
  have:=hb i hi;rw[zI5]at this;unfold at2;rw[zJ7,zK0,zI7 this,zJ7,zI7 this];rfl
 have em:b.map (at2 (ns.map (keyOf zs)))=(b.map λi=>ns.getD i 0).map (keyOf zs):=by
  rw[List.map_map];exact List.map_congr_left at_
 rw[em]at c hw;have inv:∀l:List Int,(l.map (keyOf zs)).map (λq=>-q.2)=l:=λl=>by
  rw[List.map_map];have:((λq:Int×Int=>-q.2)∘keyOf zs)=id:=by funext n;simp[keyOf]
  rw[this,List.map_id]
 refine⟨b.map λi=>ns.getD i 0,⟨?_,List.pairwise_map.mp hw⟩,?_⟩
 ·have:=c.map (λq=>-q.2)
  rwa [inv,inv]at this
 ·clear em c hw e
  induction b with
  |nil=>exact .nil
  |cons i b d=>
   refine .cons ?_ (d (λk hk=>hb k (zJ2 _ hk)) λk hk=>at_ k (zJ2 _ hk));have hi:=hb i zJ6;rw[zI5]at hi;refine oC r i _ ?_;show _=some (V.int (ns.getD i 0));rw[zK0,zI7 hi,zJ7,zI7 hi];rfl
theorem xV {K:PySem.W.Frag}{H H':Hp}{a:Addr}{xs:List V}(h:SqL K H a xs)(k:∀a o,(∀ps,o≠.tbl ps)->H a=some o->H' a=some o):SqL K H' a xs:=by
 rcases h with(h|⟨o,h⟩)|h
 ·exact .inl (.inl (k _ _ (λ_ z=>by cases z) h))
 ·exact .inl (.inr ⟨o,k _ _ (λ_ z=>by cases z) h⟩)
 ·exact .inr h
theorem lh {ta:TE}{j k:Nat}{c:Addr}(S:xN x y params scope)(hr:zI (k+2) X.A)(hg:Gl X "sorted")(hm:X.mg "sorted"=none)(hN:X.N[j]?=some y)(hy:X.env.scope.names.lookup y=some .cell)
  (hcl:∀cl,X.env.cells.lookup y=some cl->closureFor scope X.env=pure [(y,cl)]) (hgl:X.env.globals=mainGlobals) (hco:X.env.code=.ref c) (hhd:PySem.W.CodeHd X.base c yf) (hbi:X.base.BuiltinsAt X.mg yf) (hdf:defaultsOf params X.env=([],[])) (hq:X.env.qual++("<lambda>":Str)=xq) (hne:mainGlobals≠yf)
  (hb:∀u cl c' pm ctv,bindArgs (PySem.W.kla_fn "<lambda>" xq params (pairE x y n1 p1 p2 p3 p4 p5 p6) scope [(y,cl)] pm (.ref c') ctv) ⟨[u],[]⟩=pure [(x,u)])
  (hdx:(x == ("__debug__":Str))=false) (hdy:(y == ("__debug__":Str))=false) (hcx:(x == ("__classdict__":Str))=false) (hcy:(y == ("__classdict__":Str))=false) (ha:PE X a ta)
  (he:starEach [a] X.env=(false,eval a X.env)::starEach [] X.env:=by rfl) (a8:backTo pos (starEach [a] X.env)=(false,eval a X.env)::backTo pos (starEach [] X.env):=by rfl) (hpl:((backTo pos (starEach [a] X.env)).any λx=>x.1)=false:=by rfl):
  PE X (.Call (.Name "sorted" p) [a] [⟨some "key",.Lambda params (pairE x y n1 p1 p2 p3 p4 p5 p6) scope lpos,kpos⟩] pos)
   (λσ H Q=>ta σ H λv H1=>∃l ns L zs,v=.ref l/\SqL X.K H1 l (ns.map V.int)/\σ[j]?=some (some (.ref L))/\SqL X.K H1 L (zs.map V.int)/\ns.length<64/\(∀n∈ns,0<=n/\n<zs.length)/\TabAt H1/\
    ∀D H' ms,H1 D=none->H' D=some (.lst (ms.map V.int))->tj ns zs ms->TabAt H'->(∀a o,a≠yf->H1 a=some o->H' a=some o)->Q (.ref D) H'):=by
 intro pins s σ H Q I h;refine zX1 (xF I hg hm boot_sorted ?_)
 let Pd:V->Hp->Prop:=λv H1=>∃l ns L zs,v=.ref l/\SqL X.K H1 l (ns.map V.int)/\σ[j]?=some (some (.ref L))/\SqL X.K H1 L (zs.map V.int)/\ns.length<64/\(∀n∈ns,0<=n/\n<zs.length)/\TabAt H1/\
    ∀D H' ms,H1 D=none->H' D=some (.lst (ms.map V.int))->tj ns zs ms->TabAt H'->(∀a o,a≠yf->H1 a=some o->H' a=some o)->Q (.ref D) H'
 refine callWith_kw (thn (zE ha yp he pos pins s σ H (λvs H1=>match vs with|[v]=>Pd v H1|_=>False) I h) λus s1 a6=>?_) a8 hpl;obtain⟨vs,H1,I1,r1,q1⟩:=a6
 match vs,r1,q1 with
 |[v],r1,q1=>
  obtain⟨u,rfl,ru⟩:=vals1 r1;obtain⟨l,ns,L,zs,rfl,hS,Y,hZ,P,a5,T,q⟩:=(show Pd v H1 from q1);obtain⟨m,hn,hl⟩:=id I1.loc;obtain⟨ul,rl,lk⟩:=hl j y _ hN Y (.inr (.inl hy));obtain⟨cl,J,a0⟩:∃cl,X.env.cells.lookup y=some cl/\s1.heap.IsCell cl (some ul):=by
   rcases lk with⟨z,_⟩|⟨_,cl,z1,z2⟩
   ·have z:X.env.scope.names.lookup y=some .local:=z;rw[hy]at z;cases z
   ·exact⟨cl,z1,z2⟩
  show wpAny _ _ (evalAll ((do let v <-eval (.Lambda params (pairE x y n1 p1 p2 p3 p4 p5 p6) scope lpos) X.env;standAt pos;pure v)::[])) _ _ s1;refine wpAny_evalAll_cons (zI3 (cb I1 (hcl cl J) hgl hco hhd hbi hdf hq hne T λf c' H2 s2 I2 T2 U a9 hf O F=>zI3 (wpAny_standAt (zI6 (wpAny_evalAll_nil ?_)))));cases ru;show wpAny _ _ (call (.builtin "sorted") [.ref l] [("key",.ref f)]) _ _ s2;have w:∀a o,(∀ps,o≠.tbl ps)->H1 a=some o->H2 a=some o:=λa o no e=>U a o (λz=>by
   obtain⟨ps,t1,_⟩:=T.ex;rw[z,t1]at e;cases e;exact no _ rfl) e
  have S2:=xV hS w;have Z2:=xV hZ w;obtain⟨its,r,ht,hz⟩:=I2.list S2;have C:its.length=ns.length:=by rw[<-r.length,zI5]
  refine qZ (ps:=ns.map (keyOf zs)) I2 ht.isList (by rw[zI5];exact C) (zK9 (zL7 C) P) (λi v hv H3 s3 I3 w=>?_) λD out H' s' c0 lD so I' st e fD fp=>?_
  ·have hi:i<ns.length:=by rw[<-C];exact(zI8.mp hv).1
   have rv:RelV (.int ns[i]) v:=by
    have:=oC r i (.int ns[i]) (by rw[zK0,zI7 hi];rfl)
    rwa [zJ7,hv]at this
   obtain⟨m3,b2,a3⟩:=id I3.loc;obtain⟨a4,a1,b0⟩:=a3 j y _ hN Y (.inr (.inl hy));have G:s3.heap.IsCell cl (some a4):=by
    rcases b0 with⟨z,_⟩|⟨_,b1,z1,z2⟩
    ·have z:X.env.scope.names.lookup y=some .local:=z;rw[hy]at z;cases z
    ·rw[J]at z1;cases z1;exact z2
   have M:=a5 ns[i] (zT1 hi);have ek:at2 (ns.map (keyOf zs)) i=keyOf zs ns[i]:=by
    unfold at2;rw[zJ7,zK0,zI7 hi];rfl
   rw[ek];have Z3:=xV Z2 λa o _ e=>w a o e;refine wpAny_call (zX7 (aq S hr.in1.in1 I3.env0.in1.in1 (w _ _ O) (w _ _ F) G (I3.freeC y cl J) rv a1 (λpm ctv=>hb _ _ _ pm ctv) hdx hdy hcx hcy Z3 M.1 M.2) λrr s4 B=>?_);cases rr with
   |error e=>exact False.elim B
   |ok fl=>
    cases fl with
    |next=>exact False.elim B
    |brk=>exact False.elim B
    |cont=>exact False.elim B
    |ret u4=>
     obtain⟨v4,H4,os,bare,un,hok,r4,t,rfl,a7,Z⟩:=B;cases r4;obtain⟨hh,g,d,tk,a2⟩:=s4;obtain rfl:a2=s3.os:=os;refine⟨t,H4,rfl,I3.call (h':=hh) (g':=g) (d':=d) (t':=tk) (ch:=[]) un hok bare (λb z=>absurd z (by simp)),λa o e=>?_,by rw[Z];exact zk,λb o e n nf=>⟨un.keep b o e n nf (by simp),un.free b o e n (by simp)⟩⟩;rw[Z,zh (zl e a7)];exact e
  ·obtain⟨ms,sm,rm⟩:=cn r so;have nD:∀a o,H' a=some o->a≠D:=λa o e z=>by rw[z,fD]at e;cases e
   have E:H2 D=none:=I2.hok.fresh lD;have R:∀a o,H2 a=some o->upd H' D (.lst (ms.map V.int)) a=some o:=λa o e=>by rw[zh (nD a o (st a o e))];exact st a o e
   refine⟨.ref D,upd H' D (.lst (ms.map V.int)),I'.adopt fp ⟨?_,out,c0,rm,e⟩,rfl,q D _ ms ?_ zk sm (T2.same λa o _ e=>R a o e) λa o no e=>R a o (U a o no e)⟩
   ·rw[zI5,sm.1.length_eq,zO7];exact jX P
   ·cases z:H1 D with
    |none=>rfl
    |some o=>
     by_cases nt:∀ps,o≠.tbl ps
     ·rw[w D o nt z]at E;cases E
     ·simp only[Classical.not_forall,Classical.not_not]at nt;obtain⟨qs,rfl⟩:=nt;obtain⟨b3,w'⟩:=a9 D qs z;rw[w']at E;cases E
end
section
variable {X:Cx}{α:Ev}{p q pos:Pos}{a b:Expr}
theorem vJ {G:Hp}:∀ns:List Int,AVs G (ns.map V.int) (ns.map .int)
 |[]=>.nil
 |n::ns=>.cons (.int n) (vJ ns)
theorem ph {Q:List PyData->Prop}(K:X.calm=true)(hg:Gl X "list")(hm:X.mg "list"=none)(f:Gl X "range")(g:X.mg "range"=none)(h:EvD X α a λx=>EvD X α b λy=>∃i j,x=.int i/\y=.int j/\(-(2 ^ 62)<=i/\i<2 ^ 62/\-(2 ^ 62)<=j/\j<2 ^ 62)/\(j-i).toNat<=1000/\Q ((zr i (j-i).toNat).map .int))
  (he:starEach [.Call (.Name "range" q) [a,b] [] p] X.env=(false,eval (.Call (.Name "range" q) [a,b] [] p) X.env)::starEach [] X.env:=by rfl) (e:starEach [a,b] X.env=(false,eval a X.env)::starEach [b] X.env:=by rfl) (t:starEach [b] X.env=(false,eval b X.env)::starEach [] X.env:=by rfl)
  (hpl:(backTo p (starEach [b] X.env)).any (·.1)=false:=by rfl) {E:Pos}:EvL X α (.Call (.Name "list" E) [.Call (.Name "range" q) [a,b] [] p] [] pos) Q:=λF σ H R m k=>by
 refine⟨_,uc (rB K) hg hm boot_list (zE (uc oX f g boot_range (zE zi (zE zi yp t) e) (he:=e) (hpl:=hpl)) yp he) (he:=he),?_⟩;refine h F σ H _ m λx N H1 C t1 u D=>?_;have m1:=m.kz u t1;refine C F σ H1 _ m1 λy O s G v w B=>?_;have m2:=m1.kz w v;obtain⟨i,j,rfl,rfl,⟨J,M,L,I⟩,hz,q⟩:=G;cases D.int_inv;cases B.int_inv;refine⟨i,j,rfl,λr hr=>?_⟩;refine⟨r,i,j,rfl,zk,⟨J,M,L,I⟩,zN6 (yw hz),by lia,λl d=>?_⟩;have n:l≠r:=λz=>by rw[z,zk]at d;cases d
 have c:s l=none:=by rw[zh n]at d;exact d
 have A:=u.trans w;have s1:zv s (upd (upd s r (.rng i j)) l (.lst ((zr i (j-i).toNat).map V.int))):=(zU hr).trans (zU d);refine k _ _ _ q (v.same s1) (A.trans (Kz.of_same s1)) ⟨l,_,rfl,?_,zk,vJ _⟩;cases z:H l with
 |none=>rfl
 |some o=>rw[A l o z (m.tp.nt (ow0 (m2.fresh c)))]at c;cases c
end
section
variable {X:Cx}{α:Ev}{p pos:Pos}{a b:Expr}{Q:PyData->Prop}
end
theorem AVs.ints {H:Hp}{xs:List V}{ns:List Int}(h:AVs H xs (ns.map .int)):xs=ns.map V.int:=by
 induction ns generalizing xs with
 |nil=>cases h;rfl
 |cons n ns b=>cases h with
  |cons h a=>rw[zM9,b a,h.int_inv]
section
variable {X:Cx}{α:Ev}{a:Expr}{p pos kpos lpos p1 p2 p3 p4 p5 p6:Pos}{n1:Nat}{x y:Str}{params:Arguments}{scope:Scope}
structure gG (X:Cx)(c:Addr)(x y:Str)(n1:Nat)(p1 p2 p3 p4 p5 p6:Pos)(params:Arguments)(scope:Scope):Prop where
 S:xN x y params scope
 hy:X.env.scope.names.lookup y=some .cell
 hcl:∀cl,X.env.cells.lookup y=some cl->closureFor scope X.env=pure [(y,cl)]
 hgl:X.env.globals=mainGlobals
 hco:X.env.code=.ref c
 hhd:PySem.W.CodeHd X.base c yf
 hbi:X.base.BuiltinsAt X.mg yf
 hdf:defaultsOf params X.env=([],[])
 hq:X.env.qual++("<lambda>":Str)=xq
 hne:mainGlobals≠yf
 hb:∀u cl c' pm ctv,bindArgs (PySem.W.kla_fn "<lambda>" xq params (pairE x y n1 p1 p2 p3 p4 p5 p6) scope [(y,cl)] pm (.ref c') ctv) ⟨[u],[]⟩=pure [(x,u)]
 hdx:(x == ("__debug__":Str))=false
 hdy:(y == ("__debug__":Str))=false
 hcx:(x == ("__classdict__":Str))=false
 hcy:(y == ("__classdict__":Str))=false
theorem mh {j k:Nat}{c:Addr}{Q:List PyData->Prop}(T:gG X c x y n1 p1 p2 p3 p4 p5 p6 params scope)(hr:zI (k+2) X.A)(hg:Gl X "sorted")(hm:X.mg "sorted"=none)(C:X.N[j]?=some y)
  (h:EvD X α a λd=>∃ns zs:List Int,d=.list (ns.map .int)/\α[j]?=some (some (.dat (.list (zs.map .int))))/\ns.length<64/\(∀n∈ns,0<=n/\n<zs.length)/\∀ms,tj ns zs ms->Q (ms.map .int))
  (he:starEach [a] X.env=(false,eval a X.env)::starEach [] X.env:=by rfl) (u:backTo pos (starEach [a] X.env)=(false,eval a X.env)::backTo pos (starEach [] X.env):=by rfl) (hpl:((backTo pos (starEach [a] X.env)).any λx=>x.1)=false:=by rfl):
  EvL X α (.Call (.Name "sorted" p) [a] [⟨some "key",.Lambda params (pairE x y n1 p1 p2 p3 p4 p5 p6) scope lpos,kpos⟩] pos) Q:=λF σ H R m k=>by
 refine⟨_,lh (j:=j) T.S hr hg hm C T.hy T.hcl T.hgl T.hco T.hhd T.hbi T.hdf T.hq T.hne T.hb T.hdx T.hdy T.hcx T.hcy zi he u hpl,?_⟩;refine h F σ H _ m λd O H1 E t1 g G=>?_;have m1:=m.kz g t1;obtain⟨ns,zs,rfl,hz,r,f,q⟩:=E;obtain⟨l,xs,rfl,g1,g2⟩:=G.lst_inv;obtain⟨v,s1,s2⟩:=m1.dat j _ hz;obtain⟨J,ys,rfl,g3,M⟩:=s2.lst_inv;cases g2.ints;cases M.ints;refine⟨l,ns,J,zs,rfl,SqL.of (zj g1).2,s1,SqL.of (zj g3).2,r,f,t1.tab,λD H' ms i w L K kp=>?_⟩;have s:∀a xs,H1 a=some (.lst xs)->H' a=some (.lst xs):=λa xs e=>kp a _ (λz=>by
  obtain⟨ps,e1,_⟩:=t1.tab.ex;rw[z,e1]at e;cases e) e
 have kz:Kz F H1 H':=λx o e n=>kp x o n.2 e;refine k _ _ H' (q ms L) ⟨K,t1.ot,λt b c e=>⟨?_,(t1 t b c e).2⟩⟩ (g.trans kz) ⟨D,_,rfl,?_,w,vJ _⟩
 ·obtain⟨n,bs,cs,n1,e1,I,B,l1,l2⟩:=(t1 t b c e).1.ex;exact⟨n,bs,cs,n1,s _ _ e1,s _ _ I,s _ _ B,l1,l2⟩
 ·cases z:H D with
  |none=>rfl
  |some o=>rw[g D o z (m.tp.nt (ow0 (m1.fresh i)))]at i;cases i
end
section
variable {P:Program}{w:World}{K:PySem.W.Frag}{mg:Str->Option Value}{base:Heap}
theorem zE9 {x qual:Str}{st:Stmt}{f:Addr}{N ps:List Str}{k:Nat}{φ:List A->(A->Prop)->Prop}{oc:Value}{od an:Option Addr}{osl:Array (Option Value)}{kV doc pm cdv ct:Value}
  (p:K.lookup f=some ⟨oc,od,.func (PySem.W.fnOf x qual (zJ st) (zw st) (zf st) .none kV doc pm an cdv ct),osl⟩) (i:PySem.W.codeIn K cdv qual=true) (S:zT N ps (zf st)) (hlen:∀as Q,φ as Q->as.length=ps.length)
  (b:∀(d:Around) (outer:List Env) (s:Shared) (H:Hp) (E:XK) (as:List A) (Q:A->Prop),zI k (d.deeper (envOfC qual (zf st) s.heap.objs.size f cdv))->φ as Q->
   SvS (wq CX0 P w K mg base N qual (zf st) f cdv d outer s H E).nox (as.map some++List.replicate (N.length-as.length) none) (zw st) {nx:=λ_=>Q (.dat .none),rt:=Q}):yE P w K mg base CX0 (k+1) f (PySem.W.fnOf x qual (zJ st) (zw st) (zf st) .none kV doc pm an cdv ct) ps (spA φ):=by
 refine eZ p i S (λvs H Q E h=>?_) (λd outer s H vs n E hr h=>?_)
 ·obtain⟨F,as,l,_,_,_,g,c,_⟩:=h;rw[g.length,hlen as _ c]
 ·obtain⟨F,as,l,e,t,o,g,c,j⟩:=h;have:=b d outer s H E as l hr c F _ H {nx:=λ_ H'=>n .non H',rt:=n} (M.start e t o g) ⟨λα σ H' m q=>?_,λa v H' r q=>j a v H' q r,λ_ _ _ _ z=>z.elim,λ_ _ _ _ z=>z.elim⟩
  ·obtain⟨t,h,q⟩:=this;exact⟨t,h.nox,q⟩
  ·exact j _ _ _ q ⟨m.tp,m.keep,.non⟩
end
section
variable {X:Cx}{α:Ev}{Q:PyData->Prop}{a b:Expr}{pos:Pos}
end
theorem ny (c:Int)(n:Nat):zr c (n+1)=zr c n++[c+(n:Nat)]:=by simp[zr,List.range_succ]
theorem zY {c m:Int}{n:Nat}:m∈zr c n↔c<=m/\m<c+n:=by
 simp only[zr,zX9,z34]
 constructor
 ·rintro⟨i,hi,rfl⟩;lia
 ·rintro⟨a,b⟩;exact⟨(m-c).toNat,by lia,(zz6 a)⟩
theorem rP (c:Int):∀n:Nat,(zr c n).Nodup
 |0=>by simp[zr]
 |n+1=>by
  rw[ny,List.nodup_append];refine⟨rP c n,by simp,?_⟩;intro a ha b hb;rw[zY]at ha;simp at hb;exact Int.ne_of_lt (z38 ha.2 (Int.le_of_eq hb.symm))
def tm (zs:List Int)(many free i:Nat)(bs:List Bool):Prop:=
 bs.length=zs.length/\(∀j,i / many*many<=j->bs.getD j false=false)/\∀k,k<i / many->∃ms:List Int,tj (zr ((k*many:Nat):Int) many) zs ms/\∀q,q<many->bs.getD (ms.getD q 0).toNat false=decide (q<free)
theorem iF (zs:List Int){many:Nat}(free:Nat):tm zs many free 0 (List.replicate zs.length false):=by
 refine⟨by simp,λj _=>?_,λk hk=>?_⟩
 ·rw[zJ7,zQ2];split<;>rfl
 ·rw[Nat.zero_div]at hk;exact(zO2 _ (zK9 (zJ8 _) hk)).elim
theorem tZ {i many:Nat}(h:0<many)(a:i % many+1<many):(i+1) / many=i / many/\(i+1) % many=i % many+1:=by
 have e:=zX3 i many;have b:i+1=(i % many+1)+many*(i / many):=by lia
 constructor
 ·rw[b,Nat.add_mul_div_left _ _ h,Nat.div_eq_of_lt a,Nat.zero_add]
 ·rw[b,Nat.add_mul_mod_self_left,Nat.mod_eq_of_lt a]
theorem oI {i many:Nat}(h:0<many)(b:i % many+1=many):(i+1) / many=i / many+1/\(i+1) % many=0/\(i / many+1)*many=i+1:=by
 have e:=zX3 i many;have a:many*(i / many+1)=i+1:=by rw[Nat.mul_add,Nat.mul_one];lia
 refine⟨?_,?_,?_⟩
 ·rw[<-a,Nat.mul_div_cancel_left _ h]
 ·rw[<-a,Nat.mul_mod_right]
 ·rw[z30];exact a
theorem iY {zs:List Int}{many free i:Nat}{bs:List Bool}(h:0<many)(a:i % many+1<many)(m:tm zs many free i bs):tm zs many free (i+1) bs:=by
 unfold tm at *;rw[(tZ h a).1];exact m
theorem vR {lo:Int}{n:Nat}{zs ms:List Int}(s:tj (zr lo n) zs ms){q:Nat}(h:q<n):lo<=ms.getD q 0/\ms.getD q 0<lo+n:=by
 have a:ms.length=n:=by rw[s.1.length_eq,zc]
 have:ms.getD q 0∈ms:=by
  rw[zJ7,zI7 (zI9 h (zL7 a.symm))];exact zT1 _
 exact zY.mp (s.1.mem_iff.mp this)
theorem jP {zs ms:List Int}{many free i:Nat}{bs a:List Bool}(h:0<many)(n:i % many+1=many)(m:tm zs many free i bs)(s:tj (zr ((i / many*many:Nat):Int) many) zs ms)
  (l:a.length=bs.length) (e1:∀q,q<many->a.getD (ms.getD q 0).toNat false=decide (q<free)) (g:∀j,(∀q,q<many->(ms.getD q 0).toNat≠j)->a.getD j false=bs.getD j false):tm zs many free (i+1) a:=by
 obtain⟨f,t,o⟩:=oI h n;obtain⟨m1,m2,m3⟩:=m;refine⟨by rw[l,m1],λj p=>?_,λk hk=>?_⟩
 ·rw[f,o]at p;have e:=zX3 i many;have r:i / many*many=many*(i / many):=z30 _ _;rw[g j λq hq=>?_,m2 j (by lia)];have:=vR s hq
  lia
 ·rw[f]at hk;by_cases b:k=i / many
  ·subst b;exact⟨ms,s,e1⟩
  ·obtain⟨d,s2,f2⟩:=m3 k (dE hk b);refine⟨d,s2,λq hq=>?_⟩;rw[g _ λu c=>?_,f2 q hq];have a1:=vR s c;have a2:=vR s2 hq;have:(k+1)*many<=i / many*many:=Nat.mul_le_mul_right _ (by lia);rw[Nat.add_mul,Nat.one_mul]at this
   lia
theorem zo9 {lo:Int}{n:Nat}{zs ms:List Int}(s:tj (zr lo n) zs ms){m:Int}(b:lo<=m)(c:m<lo+n):∃q,q<n/\ms.getD q 0=m:=by
 have a:ms.length=n:=by rw[s.1.length_eq,zc]
 obtain⟨q,hq,e⟩:=zV7.mp (s.1.mem_iff.mpr (zY.mpr ⟨b,c⟩));exact⟨q,(zI9 hq (zL7 a)),by rw[zJ7,zI7 hq];exact e⟩
open PySem (IsZip)
section
variable {prog:Program}{w:World}{A:Around}{E:Value->Shared->Prop}{s:Shared}
theorem pD {M:Model}{a:Addr}{Q:Option Obj->Shared->Prop}(h:Q (s.heap.get? a) s):wpAny M A (loadIfAlive a) Q E s:=λc p b=>by
 show Sem.wp M c (.loadIfAlive a .pure) _ _ p s;rw[Sem.wp_loadIfAlive];exact h
abbrev zO (f0 f1:Value)(TI TO:Addr):Obj:={cls:=.type "zip",dict:=none,data:=.fields #[f0,f1,.bool false,.ref TI,.ref TO],slots:=#[]}
abbrev tO3 (a b c:Value):Obj:={cls:=.type "tuple",data:=.seq #[a,b,c]}
theorem xC {T:Addr}{a b c x:Value}{k:Nat}{Q:Unit->Shared->Prop}(d:s.heap.get? T=some (tO3 a b c))
  (h:∀h',h'.get? T=some {cls:=.type "tuple",data:=.seq ((#[a,b,c]:Array Value).setIfInBounds k x)}->Heap.SameBut T s.heap h'->Q () {s with heap:=h'}):
  wpAny (model prog w) A (updateSeq T (·.setIfInBounds k x)) Q E s:=by
 refine zV2 d rfl (h _ ?_ (zQ9 ..));rw[zV0 _ d rfl];simp[Obj.mapSeq]
structure xZ (h:Heap)(n:Nat)(l1 l2 l3:Addr)(k:Nat)(f0 f1 a b c:Value):Prop where
 z:h.get? (n+5:Nat)=some (zO f0 f1 (n+3:Nat) (n+4:Nat))
 ti:h.get? (n+3:Nat)=some (tO3 (.ref (n:Nat)) (.ref (n+1:Nat)) (.ref (n+2:Nat)))
 to:h.get? (n+4:Nat)=some (tO3 a b c)
 i1:h.IsListIter (n:Nat) l1 k
 i2:h.IsListIter (n+1:Nat) l2 k
 i3:h.IsListIter (n+2:Nat) l3 k
abbrev z3 (n:Nat):List Addr:=[(n:Nat),(n+1:Nat),(n+2:Nat),(n+3:Nat),(n+4:Nat),(n+5:Nat)]
theorem zo (a b:Nat)(h:a<b\/b<a):@Ne Addr a b:=λe=>by
 have e:@Eq Nat a b:=e
 lia
theorem mT {n l1 l2 l3:Nat}{k:Nat}{f1 a b c x y z:Value}{xs ys zs:Array Value}{Q:Value->Shared->Prop}(h1:l1<n)(h2:l2<n)(h3:l3<n)(Z:xZ s.heap n l1 l2 l3 k .none f1 a b c)
  (a9:s.heap.IsList l1 xs) (a8:s.heap.IsList l2 ys) (b0:s.heap.IsList l3 zs) (hx:xs[k]?=some x) (hy:ys[k]?=some y) (hz:zs[k]?=some z)
  (hQ:∀h',xZ h' n l1 l2 l3 (k+1) (rawInt s.heap.objs.size) (.bool false) x y z->h'.get? s.heap.objs.size=some (tO3 x y z)->
   (∀c o,c∉z3 n->s.heap.get? c=some o->h'.get? c=some o)->Q (.ref s.heap.objs.size) {s with heap:=h'}):
  wpAny (model prog w) A (Builtin.«zip.__next__» ⟨[.ref (n+5:Nat)],[]⟩) (λfin s'=>∃v,fin=.done (.ret v)/\Q v s') E s:=by
 obtain⟨H,a4,a7,g1,g2,g3⟩:=Z;show wpAny _ _ (field (.ref _) 2 >>= _) _ _ _;refine zI3 (zU7 H rfl (x:=.bool false) rfl ?_);show wpAny _ _ (field (.ref _) 3 >>= _) _ _ _;refine zI3 (zU7 H rfl (x:=.ref (n+3:Nat)) rfl ?_);refine zI3 (zR8 a4 rfl ?_);show wpAny _ _ (Builtin.SmallTypes.ownedTupleIsFree (.ref (n+5:Nat)) >>= _) _ _ _;refine zI3 ?_;unfold Builtin.SmallTypes.ownedTupleIsFree;refine zI3 (zU7 H rfl (x:=.none) rfl (zI6 ?_));simp only[zY9];refine zI3 (zR7 ?_);refine zI3 (zU7 H rfl (x:=.ref (n+4:Nat)) rfl ?_);refine zI3 (zP6 H (by simp) λU u f=>?_)
 replace u:U.get? (n+5:Nat)=some (zO .ellipsis f1 (n+3:Nat) (n+4:Nat)):=u
 refine zI3 ?_;simp only[List.zipIdx_cons,List.zipIdx_nil,z28,List.forIn_nil];refine zI3 (zI3 (wpAny_onRaise ?_));show wpAny _ _ (Builtin.SmallTypes.nextOf (.ref (n:Nat)) >>= _) _ _ _;refine zI3 (zS8 (g1.extBut f.extBut (by refine zo _ _ ?_;exact gD)) (a9.extBut f.extBut (by refine zo _ _ ?_;exact .inl (zI9 h1 (zL0 _ _)))) hx λX L h=>zI6 ?_);have D:X.get? (n+4:Nat)=some (tO3 a b c):=h.extBut _ _ (by refine zo _ _ ?_;exact zc5) (f.extBut _ _ (by refine zo _ _ ?_;exact dG) a7);refine zI3 (zR8 D rfl ?_);refine zI3 (xC D λY q g=>?_)
 replace q:Y.get? (n+4:Nat)=some (tO3 x b c):=q
 refine zI3 (wpAny_letGo (zI6 ?_));refine zI3 (zI3 (wpAny_onRaise ?_));show wpAny _ _ (Builtin.SmallTypes.nextOf (.ref (n+1:Nat)) >>= _) _ _ _;refine zI3 (zS8 (((g2.extBut f.extBut (by refine zo _ _ ?_;exact cq)).extBut h.extBut (by refine zo _ _ ?_;exact .inr (zO3 _))).extBut g.extBut (by refine zo _ _ ?_;exact dX))
  (((a8.extBut f.extBut (by refine zo _ _ ?_;exact .inl (zI9 h2 (zL0 _ _)))).extBut h.extBut (by refine zo _ _ ?_;exact .inl h2)).extBut g.extBut (by refine zo _ _ ?_;exact .inl (zI9 h2 (zL0 _ _)))) hy λa1 O i=>zI6 ?_)
 have C:a1.get? (n+4:Nat)=some (tO3 x b c):=i.extBut _ _ (by refine zo _ _ ?_;exact zd8) q;refine zI3 (zR8 C rfl ?_);refine zI3 (xC C λa2 r j=>?_)
 replace r:a2.get? (n+4:Nat)=some (tO3 x y c):=r
 refine zI3 (wpAny_letGo (zI6 ?_));refine zI3 (zI3 (wpAny_onRaise ?_));show wpAny _ _ (Builtin.SmallTypes.nextOf (.ref (n+2:Nat)) >>= _) _ _ _;refine zI3 (zS8 (((((g3.extBut f.extBut (by refine zo _ _ ?_;exact dS)).extBut h.extBut (by refine zo _ _ ?_;exact zd1)).extBut g.extBut (by refine zo _ _ ?_;exact cI)).extBut i.extBut (by refine zo _ _ ?_;exact zj1)).extBut j.extBut (by refine zo _ _ ?_;exact cI))
  (((((b0.extBut f.extBut (by refine zo _ _ ?_;exact .inl (zI9 h3 (zL0 _ _)))).extBut h.extBut (by refine zo _ _ ?_;exact .inl h3)).extBut g.extBut (by refine zo _ _ ?_;exact .inl (zI9 h3 (zL0 _ _)))).extBut i.extBut (by refine zo _ _ ?_;exact .inl (zI9 h3 (zL0 _ _)))).extBut j.extBut (by refine zo _ _ ?_;exact .inl (zI9 h3 (zL0 _ _)))) hz λa5 R m=>zI6 ?_)
 have B:a5.get? (n+4:Nat)=some (tO3 x y c):=m.extBut _ _ (by refine zo _ _ ?_;exact zh7) r;refine zI3 (zR8 B rfl ?_);refine zI3 (xC B λd p l=>?_)
 replace p:d.get? (n+4:Nat)=some (tO3 x y z):=p
 refine zI3 (wpAny_letGo (zI6 (zI6 ?_)));refine zI3 (zR8 p rfl ?_);refine zI3 (zX8 ?_);have a3:d.objs.size=s.heap.objs.size:=by rw[l.1,m.1,j.1,i.1,g.1,h.1,f.1]
 have W:∀c o,c≠(n+5:Nat)->c≠(n:Nat)->c≠(n+4:Nat)->c≠(n+1:Nat)->c≠(n+2:Nat)->s.heap.get? c=some o->d.get? c=some o:=λc o c1 c2 c3 c4 c5 e=>
  l.extBut _ _ c3 (m.extBut _ _ c5 (j.extBut _ _ c3 (i.extBut _ _ c4 (g.extBut _ _ c3 (h.extBut _ _ c2 (f.extBut _ _ c1 e))))))
 have G:d.get? (n+5:Nat)=some (zO .ellipsis f1 (n+3:Nat) (n+4:Nat)):=l.extBut _ _ (by refine zo _ _ ?_;exact dN) (m.extBut _ _ (by refine zo _ _ ?_;exact zj4) (j.extBut _ _ (by refine zo _ _ ?_;exact dN) (i.extBut _ _ (by refine zo _ _ ?_;exact zg9) (g.extBut _ _ (by refine zo _ _ ?_;exact dN) (h.extBut _ _ (by refine zo _ _ ?_;exact zg0) u)))));have N:d.IsListIter (n:Nat) l1 (k+1):=((((L.extBut g.extBut (by refine zo _ _ ?_;exact fQ)).extBut i.extBut (by refine zo _ _ ?_;exact .inl (zO3 _))).extBut j.extBut (by refine zo _ _ ?_;exact fQ)).extBut m.extBut (by refine zo _ _ ?_;exact zj2)).extBut l.extBut (by refine zo _ _ ?_;exact fQ);have M:d.IsListIter (n+1:Nat) l2 (k+1):=((O.extBut j.extBut (by refine zo _ _ ?_;exact dX)).extBut m.extBut (by refine zo _ _ ?_;exact zc9)).extBut l.extBut (by refine zo _ _ ?_;exact dX);have T:d.IsListIter (n+2:Nat) l3 (k+1):=R.extBut l.extBut (by refine zo _ _ ?_;exact cI);have J:=W _ _ (by refine zo _ _ ?_;exact cM) (by refine zo _ _ ?_;exact zf8) (by refine zo _ _ ?_;lia) (by refine zo _ _ ?_;exact ze0) (by refine zo _ _ ?_;exact zh0) a4;have K:(n+5:Nat)<d.objs.size:=zJ5 G;show wpAny _ _ (Builtin.SmallTypes.ownedTupleHandOut (.ref (n+5:Nat)) (.ref d.objs.size) >>= _) _ _ _;refine zI3 ?_;unfold Builtin.SmallTypes.ownedTupleHandOut;have P:(d.push {cls:=.type "tuple",data:=.seq #[x,y,z]}).get? (n+5:Nat)=some (zO .ellipsis f1 (n+3:Nat) (n+4:Nat)):=zI4 _ G;refine zI3 (zP6 P (by simp) λV t F=>?_)
 replace t:V.get? (n+5:Nat)=some (zO (rawInt d.objs.size) f1 (n+3:Nat) (n+4:Nat)):=t
 refine zP6 t (by simp) λhA I a6=>?_
 replace I:hA.get? (n+5:Nat)=some (zO (rawInt d.objs.size) (.bool false) (n+3:Nat) (n+4:Nat)):=I
 have up:∀c o,c≠(n+5:Nat)->d.get? c=some o->hA.get? c=some o:=λc o c1 e=>a6.extBut _ _ c1 (F.extBut _ _ c1 (zI4 _ e));have a0:hA.get? d.objs.size=some (tO3 x y z):=a6.extBut _ _ (zT6 K) (F.extBut _ _ (zT6 K) (zJ4 _ rfl));rw[a3]at I a0;refine zI6 ⟨_,rfl,?_⟩;show Q (.ref d.objs.size) _;rw[a3];refine hQ hA ⟨I,up _ _ (by refine zo _ _ ?_;exact cM) J,up _ _ (by refine zo _ _ ?_;exact dG) p,N.at λo e=>up _ o (by refine zo _ _ ?_;exact gD) e,M.at λo e=>up _ o (by refine zo _ _ ?_;exact cq) e,T.at λo e=>up _ o (by refine zo _ _ ?_;exact dS) e⟩ a0 λc o S e=>?_;simp only[z3,zJ1,zK5,zN1,not_or]at S;exact up c o S.2.2.2.2.2 (W c o S.2.2.2.2.2 S.1 S.2.2.2.2.1 S.2.1 S.2.2.1 e)
theorem rM {n l1 l2 l3 k T:Nat}{f1 a b c:Value}{ot:Obj}{Q:Bool->Shared->Prop}(r:l1<n)(t:l2<n)(u:l3<n)(Z:xZ s.heap n l1 l2 l3 k (rawInt (T:Nat)) f1 a b c)(q:s.heap.get? T=some ot)
  (m:∀h' l,xZ h' n l1 l2 l3 k (rawInt (T:Nat)) l a b c->h'.objs.size=s.heap.objs.size->(∀c o,c≠(n+5:Nat)->s.heap.get? c=some o->h'.get? c=some o)->Q false {s with heap:=h'}):
  wpAny (model prog w) A (Builtin.SmallTypes.ownedTupleIsFree (.ref (n+5:Nat))) Q E s:=by
 obtain⟨g,i,j,g1,g2,g3⟩:=Z;unfold Builtin.SmallTypes.ownedTupleIsFree;refine zI3 (zU7 g rfl (x:=rawInt (T:Nat)) rfl ?_);show wpAny _ _ (loadIfAlive ((T:Int).toNat) >>= _) _ _ _;refine zI3 (pD ?_);rw[show((T:Int).toNat)=T from zQ7 T,q];show wpAny _ _ (field (.ref (n+5:Nat)) 1 >>= _) _ _ _;refine zI3 (zU7 g rfl (x:=f1) rfl ?_);refine zM8 (λ_=>?_) (λ_=>?_)
 ·refine zI3 (zP6 g (by simp) λh f d=>zI6 ?_)
  replace f:h.get? (n+5:Nat)=some (zO (rawInt (T:Nat)) (.bool true) (n+3:Nat) (n+4:Nat)):=f
  exact m h _ ⟨f,d.extBut _ _ (by refine zo _ _ ?_;exact cM) i,d.extBut _ _ (by refine zo _ _ ?_;exact dG) j,g1.extBut d.extBut (by refine zo _ _ ?_;exact gD),g2.extBut d.extBut (by refine zo _ _ ?_;exact cq),g3.extBut d.extBut (by refine zo _ _ ?_;exact dS)⟩ d.1 λc o p e=>d.extBut _ _ p e
 ·exact zI6 (m s.heap f1 ⟨g,i,j,g1,g2,g3⟩ rfl λ_ _ _ e=>e)
theorem iR {n l1 l2 l3 k T:Nat}{f1 a b c x y z:Value}{ot:Obj}{xs ys zs:Array Value}{Q:Value->Shared->Prop}(P:l1<n)(I:l2<n)(F:l3<n)(Z:xZ s.heap n l1 l2 l3 k (rawInt (T:Nat)) f1 a b c)(R:s.heap.get? T=some ot)
  (j:s.heap.IsList l1 xs) (r:s.heap.IsList l2 ys) (u:s.heap.IsList l3 zs) (W:xs[k]?=some x) (hy:ys[k]?=some y) (hz:zs[k]?=some z)
  (X:∀h' q,xZ h' n l1 l2 l3 (k+1) (rawInt (T:Nat)) q a b c->h'.get? s.heap.objs.size=some (tO3 x y z)->
   (∀c o,c∉z3 n->s.heap.get? c=some o->h'.get? c=some o)->Q (.ref s.heap.objs.size) {s with heap:=h'}):
  wpAny (model prog w) A (Builtin.«zip.__next__» ⟨[.ref (n+5:Nat)],[]⟩) (λfin s'=>∃v,fin=.done (.ret v)/\Q v s') E s:=by
 show wpAny _ _ (field (.ref _) 2 >>= _) _ _ _;refine zI3 (zU7 Z.z rfl (x:=.bool false) rfl ?_);show wpAny _ _ (field (.ref _) 3 >>= _) _ _ _;refine zI3 (zU7 Z.z rfl (x:=.ref (n+3:Nat)) rfl ?_);refine zI3 (zR8 Z.ti rfl ?_);show wpAny _ _ (Builtin.SmallTypes.ownedTupleIsFree (.ref (n+5:Nat)) >>= _) _ _ _;refine zI3 (rM P I F Z R λG q ZB L H=>?_);obtain⟨M,K,J,g1,g2,g3⟩:=ZB
 replace j:G.IsList l1 xs:=j.at λo e=>H _ o (by refine zo _ _ ?_;exact .inl (zI9 P (zL0 _ _))) e
 replace r:G.IsList l2 ys:=r.at λo e=>H _ o (by refine zo _ _ ?_;exact .inl (zI9 I (zL0 _ _))) e
 replace u:G.IsList l3 zs:=u.at λo e=>H _ o (by refine zo _ _ ?_;exact .inl (zI9 F (zL0 _ _))) e
 simp only[zR5,zY2];rw[z39];simp only[z28,List.forIn_nil];refine zI3 (zI3 (zI3 (zN7 ?_)));show wpAny _ _ (Builtin.SmallTypes.nextOf (.ref (n:Nat)) >>= _) _ _ _;refine zI3 (zS8 g1 j W λO m d=>zI6 (zI6 ?_));refine zI3 (zI3 (zN7 ?_));show wpAny _ _ (Builtin.SmallTypes.nextOf (.ref (n+1:Nat)) >>= _) _ _ _;refine zI3 (zS8 (g2.extBut d.extBut (by refine zo _ _ ?_;exact .inr (zO3 _))) (r.extBut d.extBut (by refine zo _ _ ?_;exact .inl I)) hy λN p f=>zI6 (zI6 ?_));refine zI3 (zI3 (zN7 ?_));show wpAny _ _ (Builtin.SmallTypes.nextOf (.ref (n+2:Nat)) >>= _) _ _ _;refine zI3 (zS8 ((g3.extBut d.extBut (by refine zo _ _ ?_;exact zd1)).extBut f.extBut (by refine zo _ _ ?_;exact zj1)) ((u.extBut d.extBut (by refine zo _ _ ?_;exact .inl F)).extBut f.extBut (by refine zo _ _ ?_;exact .inl (zI9 F (zL0 _ _)))) hz λg B h=>zI6 (zI6 (zI6 ?_)));refine zI3 (zX8 ?_ (by show 3<=sizeLine;decide));have D:g.objs.size=s.heap.objs.size:=by rw[h.1,f.1,d.1];exact L
 have i:∀c o,c≠(n:Nat)->c≠(n+1:Nat)->c≠(n+2:Nat)->G.get? c=some o->g.get? c=some o:=λc o U S V e=>h.extBut _ _ V (f.extBut _ _ S (d.extBut _ _ U e));have up:∀c o,g.get? c=some o->(g.push {cls:=.type "tuple",data:=.seq #[x,y,z]}).get? c=some o:=λc o e=>zI4 _ e;have l:g.IsListIter (n:Nat) l1 (k+1):=(m.extBut f.extBut (by refine zo _ _ ?_;exact .inl (zO3 _))).extBut h.extBut (by refine zo _ _ ?_;exact zj2);have t:g.IsListIter (n+1:Nat) l2 (k+1):=p.extBut h.extBut (by refine zo _ _ ?_;exact zc9);refine zI6 ⟨_,rfl,?_⟩;show Q (.ref g.objs.size) _;rw[D];refine X _ q ⟨up _ _ (i _ _ (by refine zo _ _ ?_;exact zg0) (by refine zo _ _ ?_;exact zg9) (by refine zo _ _ ?_;exact zj4) M),up _ _ (i _ _ (by refine zo _ _ ?_;exact zf8) (by refine zo _ _ ?_;exact ze0) (by refine zo _ _ ?_;exact zh0) K),up _ _ (i _ _ (by refine zo _ _ ?_;exact zc5) (by refine zo _ _ ?_;exact zd8) (by refine zo _ _ ?_;exact zh7) J),l.at λo e=>up _ o e,t.at λo e=>up _ o e,B.at λo e=>up _ o e⟩ ?_ λc o C e=>?_
 ·rw[<-D];exact zJ4 _ rfl
 ·simp only[z3,zJ1,zK5,zN1,not_or]at C;exact up c o (i c o C.1 C.2.1 C.2.2.1 (H c o C.2.2.2.2.2 e))
theorem fH {n l1 l2 l3 k T:Nat}{f1 a b c:Value}{ot:Obj}{xs:Array Value}{Q:PySem.Fin->Shared->Prop}(m:A.handled=none)(i:l1<n)(p:l2<n)(u:l3<n)(Z:xZ s.heap n l1 l2 l3 k (rawInt (T:Nat)) f1 a b c)(l:s.heap.get? T=some ot)
  (d:s.heap.IsList l1 xs) (t:xs[k]?=none)
  (B:∀h' e,(∀c o,c∉z3 n->s.heap.get? c=some o->h'.get? c=some o)->(∃o,h'.get? e=some o/\o.cls=.type "StopIteration")->E (.ref e) {s with heap:=h'}):
  wpAny (model prog w) A (Builtin.«zip.__next__» ⟨[.ref (n+5:Nat)],[]⟩) Q E s:=by
 show wpAny _ _ (field (.ref _) 2 >>= _) _ _ _;refine zI3 (zU7 Z.z rfl (x:=.bool false) rfl ?_);show wpAny _ _ (field (.ref _) 3 >>= _) _ _ _;refine zI3 (zU7 Z.z rfl (x:=.ref (n+3:Nat)) rfl ?_);refine zI3 (zR8 Z.ti rfl ?_);show wpAny _ _ (Builtin.SmallTypes.ownedTupleIsFree (.ref (n+5:Nat)) >>= _) _ _ _;refine zI3 (rM i p u Z l λy r ZB v j=>?_)
 replace d:y.IsList l1 xs:=d.at λo e=>j _ o (by refine zo _ _ ?_;exact .inl (zI9 i (zL0 _ _))) e
 simp only[zR5,zY2];rw[z39];simp only[z28,List.forIn_nil];refine zI3 (zI3 (zI3 (zN7 ?_)));show wpAny _ _ (Builtin.SmallTypes.nextOf (.ref (n:Nat)) >>= _) _ _ _;refine zI3 (wpAny_nextOf_list_end m ZB.i1 d t λg e f he=>?_);refine B g e (λc o h q=>?_) he;simp only[z3,zJ1,zK5,zN1,not_or]at h;exact f _ _ h.1 (j _ _ h.2.2.2.2.2 q)
theorem pW {n l1 l2 l3 k:Nat}{f1 a b c x y z:Value}{xs ys zs:Array Value}{Q:Option Value->Shared->Prop}(i:l1<n)(j:l2<n)(l:l3<n)(Z:xZ s.heap n l1 l2 l3 k .none f1 a b c)
  (e:s.heap.IsList l1 xs) (d:s.heap.IsList l2 ys) (f:s.heap.IsList l3 zs) (h:xs[k]?=some x) (hy:ys[k]?=some y) (hz:zs[k]?=some z)
  (p:∀h',xZ h' n l1 l2 l3 (k+1) (rawInt s.heap.objs.size) (.bool false) x y z->h'.get? s.heap.objs.size=some (tO3 x y z)->
   (∀c o,c∉z3 n->s.heap.get? c=some o->h'.get? c=some o)->Q (some (.ref s.heap.objs.size)) {s with heap:=h'}):
  wpAny (model prog w) A (pyNext (.ref (n+5:Nat))) Q E s:=by
 have g:s.TypeIs (.ref (n+5:Nat)) "zip":=⟨_,Z.z,rfl⟩;unfold pyNext;exact zI3 (zU4 (zQ3 (name:=Str.ofString "__next__") g zR3
  (zP0 zR3 g z09
   (mT i j l Z e d f h hy hz λh' a1 a2 m=>zI6 (p h' a1 a2 m)) (z06 _))))
theorem nR {n l1 l2 l3 k T:Nat}{f1 a b c x y z:Value}{ot:Obj}{xs ys zs:Array Value}{Q:Option Value->Shared->Prop}(p:l1<n)(j:l2<n)(q:l3<n)(Z:xZ s.heap n l1 l2 l3 k (rawInt (T:Nat)) f1 a b c)(i:s.heap.get? T=some ot)
  (f:s.heap.IsList l1 xs) (g:s.heap.IsList l2 ys) (h:s.heap.IsList l3 zs) (m:xs[k]?=some x) (hy:ys[k]?=some y) (hz:zs[k]?=some z)
  (r:∀h' d,xZ h' n l1 l2 l3 (k+1) (rawInt (T:Nat)) d a b c->h'.get? s.heap.objs.size=some (tO3 x y z)->
   (∀c o,c∉z3 n->s.heap.get? c=some o->h'.get? c=some o)->Q (some (.ref s.heap.objs.size)) {s with heap:=h'}):
  wpAny (model prog w) A (pyNext (.ref (n+5:Nat))) Q E s:=by
 have e:s.TypeIs (.ref (n+5:Nat)) "zip":=⟨_,Z.z,rfl⟩;unfold pyNext;exact zI3 (zU4 (zQ3 (name:=Str.ofString "__next__") e zR3
  (zP0 zR3 e z09
   (iR p j q Z i f g h m hy hz λh' d a1 a2 l=>zI6 (r h' d a1 a2 l)) (z06 _))))
theorem iq {n l1 l2 l3 k T:Nat}{f1 a b c:Value}{ot:Obj}{xs:Array Value}{Q:Option Value->Shared->Prop}(l:A.handled=none)(m:l1<n)(p:l2<n)(q:l3<n)(Z:xZ s.heap n l1 l2 l3 k (rawInt (T:Nat)) f1 a b c)(j:s.heap.get? T=some ot)
  (f:s.heap.IsList l1 xs) (i:xs[k]?=none)
  (r:∀h',(∀c o,c∉z3 n->s.heap.get? c=some o->h'.get? c=some o)->Q none {s with heap:=h'}):
  wpAny (model prog w) A (pyNext (.ref (n+5:Nat))) Q E s:=by
 have d:s.TypeIs (.ref (n+5:Nat)) "zip":=⟨_,Z.z,rfl⟩;unfold pyNext;refine zI3 (zU4 (zQ3 (name:=Str.ofString "__next__") d zR3
  (zP0 zR3 d z09 (fH l m p q Z j f i λh' e hk he=>?_) (z06 _))))
 obtain⟨o,h,g⟩:=he;refine zI3 (z23 (T:="StopIteration") (b:=true) ⟨o,h,g⟩ isSubtype_stop ?_);exact zI6 (r _ hk)
end
section
variable {X:Cx}{pins:List (Addr×Obj)}{σ:St}{H:Hp}{s:Shared}
def Tri (H0 H:Hp)(xs ys zs vs:List V)(i:Nat):Prop:=vs.length=i/\∀j,j<i->∃t x y z,vs[j]?=some (.ref t)/\xs[j]?=some x/\ys[j]?=some y/\zs[j]?=some z/\H t=some (.tup [x,y,z])/\H0 t=none
structure ZAt (X:Cx)(pins:List (Addr×Obj))(σ:St)(H:Hp)(n l1 l2 l3:Nat)(S:Addr)(xs ys zs:List V)(i:Nat)(s':Shared):Prop where
 ex:∃(H':Hp) (acc:List Value) (vs:List V) (e:Nat) (f0 f1 a b c:Value),Inv X pins σ H' s'/\(∀a o,H a=some o->H' a=some o)/\s'.heap.get? S=some {cls:=.type "list",dict:=none,data:=.seq acc.toArray e,slots:=#[]}/\H' S=none/\(∀b∈z3 n,H' b=none)/\
  xZ s'.heap n l1 l2 l3 i f0 f1 a b c/\(i=0/\f0=.none\/∃(T:Nat) (ot:Obj),f0=rawInt (T:Nat)/\s'.heap.get? T=some ot/\T∉S::z3 n)/\Vals vs acc/\Tri H H' xs ys zs vs i
structure zo3 (X:Cx)(pins:List (Addr×Obj))(σ:St)(H:Hp)(S:Addr)(xs ys zs:List V)(s':Shared):Prop where
 ex:∃(H':Hp) (acc:List Value) (vs:List V) (e:Nat),Inv X pins σ H' s'/\(∀a o,H a=some o->H' a=some o)/\s'.heap.get? S=some {cls:=.type "list",dict:=none,data:=.seq acc.toArray e,slots:=#[]}/\H' S=none/\Vals vs acc/\Tri H H' xs ys zs vs xs.length
theorem Tri.snoc {H0 H H':Hp}{xs ys zs vs:List V}{i:Nat}{t:Addr}{x y z:V}(h:Tri H0 H xs ys zs vs i)(k:∀a o,H a=some o->H' a=some o)(f:xs[i]?=some x)(hy:ys[i]?=some y)(hz:zs[i]?=some z)(q:H' t=some (.tup [x,y,z]))(hn:H0 t=none):Tri H0 H' xs ys zs (vs++[.ref t]) (i+1):=by
 refine⟨by rw[zL4,h.1];rfl,λj g=>?_⟩;rcases zN2 j i with b|b
 ·obtain⟨t',d,l,n,e1,m,e,p,c,r⟩:=h.2 j b;exact⟨t',d,l,n,by rw[zO6 (by rw[h.1];exact b)];exact e1,m,e,p,k _ _ c,r⟩
 ·have:j=i:=(zS5 (zS4 g) b);subst this;exact⟨t,x,y,z,by rw[zQ5 (by rw[h.1];exact zJ0 _),h.1];simp,f,hy,hz,q,hn⟩
theorem jU {A:Around}{R:Result->Shared->Prop}{n l1 l2 l3:Nat}{S:Addr}{xs ys zs:List V}(hh:A.handled=none)(h1:l1<n)(h2:l2<n)(h3:l3<n)(fS:∀H',H' S=none->yT X pins H' S)(fz:∀b∈z3 n,∀H',H' b=none->yT X pins H' b)(p:S∉z3 n)
  (U:SqL X.K H l1 xs) (q2:SqL X.K H l2 ys) (Y:SqL X.K H l3 zs) (e2:ys.length=xs.length) (e3:zs.length=xs.length) (h0:0<xs.length) (hN:xs.length<=1000)
  (hR:∀s',zo3 X pins σ H S xs ys zs s'->R (.ok (.ret .none)) s'):
  ∀(k i:Nat) (s:Shared),xs.length-i=k->i<=xs.length->ZAt X pins σ H n l1 l2 l3 S xs ys zs i s->codeAny (model X.prog X.w) A (.builtin "list.extend.loop" ⟨[.ref S,.ref (n+5:Nat),.none],[]⟩) R s:=by
 have a4:A.in1.handled=none:=hh;intro k
 induction k with
 |zero=>
  intro i s hk hi y;have a6:i=xs.length:=(zx5 hk hi);subst a6;obtain⟨H',acc,vs,e,f0,f1,a,b,c,I,st,G,nS,Q,Z,fr,W,tr⟩:=y.ex;refine zT7 PySem.F.entry_extend_loop ?_;rw[zR9 zT4 _];show wpAny _ A.in1 (pyNext (.ref (n+5:Nat)) >>= _) _ _ s;rcases fr with⟨z,_⟩|⟨T,ot,rfl,D,d⟩
  ·exact(zO2 _ (zI9 h0 (zL7 z))).elim
  obtain⟨O,B,p1,a2⟩:=I.list (xV U λa o _ e=>st a o e);refine zI3 (iq a4 h1 h2 h3 Z D p1.isList (by rw[List.getElem?_toArray,zT3];rw[B.length];exact zJ0 _) λh' j=>?_);refine zI6 (hR _ ⟨H',acc,vs,e,I.turnL (t':=s.toks) (ch:=z3 n) (λb o hb q=>j b o hb q) (λb hb=>fz b hb H' (Q b hb)),st,j _ _ p G,nS,W,tr⟩)
 |succ k ih=>
  intro i s hk hi y;have m:i<xs.length:=(zz7 hk);obtain⟨H',acc,vs,e,f0,f1,a,b,c,I,st,G,nS,Q,Z,fr,W,tr⟩:=y.ex;refine zT7 PySem.F.entry_extend_loop ?_;rw[zR9 zT4 _];show wpAny _ A.in1 (pyNext (.ref (n+5:Nat)) >>= _) _ _ s;obtain⟨O,B,p1,a2⟩:=I.list (xV U λa o _ e=>st a o e);obtain⟨b0,a8,p2,b1⟩:=I.list (xV q2 λa o _ e=>st a o e);obtain⟨a9,a7,p3,b2⟩:=I.list (xV Y λa o _ e=>st a o e);have gx:xs[i]?=some xs[i]:=zI7 m;have gy:ys[i]?=some ys[i]:=zI7 (zI9 m (zL7 e2.symm));have gz:zs[i]?=some zs[i]:=zI7 (zI9 m (zL7 e3.symm));obtain⟨u,hu,ru⟩:=B.get gx;obtain⟨v,hv,a0⟩:=a8.get gy;obtain⟨w,hw,a5⟩:=a7.get gz;have t:acc.length=i:=by rw[<-W.length,tr.1]
  have P:∀b∈z3 n,b<s.heap.objs.size:=λb hb=>by
   have:∃o,s.heap.get? b=some o:=by
    simp only[z3,zJ1,zK5,zN1]at hb;obtain⟨o1,U,_⟩:=Z.i1;obtain⟨o2,q2,_⟩:=Z.i2;obtain⟨o3,Y,_⟩:=Z.i3;rcases hb with rfl|rfl|rfl|rfl|rfl|rfl
    ·exact⟨_,U⟩
    ·exact⟨_,q2⟩
    ·exact⟨_,Y⟩
    ·exact⟨_,Z.ti⟩
    ·exact⟨_,Z.to⟩
    ·exact⟨_,Z.z⟩
   obtain⟨o,q⟩:=this;exact zJ5 q
  have main:∀(h':Heap) (l r a' b' c':Value),xZ h' n l1 l2 l3 (i+1) l r a' b' c'->(∃(T:Nat) (ot:Obj),l=rawInt (T:Nat)/\h'.get? T=some ot/\T∉S::z3 n)->h'.get? s.heap.objs.size=some (tO3 u v w)->
    (∀c o,c∉z3 n->s.heap.get? c=some o->h'.get? c=some o)->wpAny (model X.prog X.w) A.in1 (updateSeq S (·.push (.ref s.heap.objs.size)) >>= λ_=>again (.builtin "list.extend.loop" ⟨[.ref S,.ref (n+5:Nat),.none],[]⟩))
     (λfin s'=>match fin with|.done f=>R (.ok f) s'|.again c'=>c'.quiet=true/\codeAny (model X.prog X.w) A c' R s') (λe s'=>R (.error e) s') {s with heap:=h'}:=by
   intro h' l r a' b' c' h ⟨T,ot,hf,D,d⟩ C j;have nT:H' s.heap.objs.size=none:=I.hok.fresh (zJ0 _);have a1:H s.heap.objs.size=none:=by
    cases q:H s.heap.objs.size with
    |none=>rfl
    |some o=>rw[st _ _ q]at nT;cases nT
   have N:∀a o,H' a=some o->upd H' s.heap.objs.size (.tup [xs[i],ys[i],zs[i]]) a=some o:=λa o q=>by rw[zh (zl q nT)];exact q
   have J:=I.turnLay (t':=s.toks) (h':=h') (ch:=z3 n) (T:=s.heap.objs.size) (o:=.tup [xs[i],ys[i],zs[i]]) j (λb hb=>fz b hb H' (Q b hb)) (zJ0 _) ⟨by show 3<=sizeLine;decide,[u,v,w],.cons ru (.cons a0 (.cons a5 .nil)),_,C,rfl,0,rfl⟩;have L:=j _ _ p G;have M:S<s.heap.objs.size:=zJ5 G;have E:upd H' s.heap.objs.size (.tup [xs[i],ys[i],zs[i]]) S=none:=by rw[zh (zK2 M)];exact nS
   obtain⟨e',a3⟩:∃e',(h'.update S (Obj.mapSeq (·.push (Value.ref s.heap.objs.size)))).get? S=some {cls:=.type "list",dict:=none,data:=.seq (acc++[Value.ref s.heap.objs.size]).toArray e',slots:=#[]}:=by
    have:=zR1 (c:="list") L λx=>x.push (Value.ref s.heap.objs.size);rw[List.push_toArray]at this;exact⟨_,this⟩
   refine zI3 ?_;refine zV2 L rfl (zI6 ⟨zW9 zT4 _,ih (i+1) _ (zy7 hk) m ⟨_,acc++[.ref s.heap.objs.size],vs++[.ref s.heap.objs.size],e',l,r,a',b',c',
    J.turnL (t':=s.toks) (ch:=[S]) (λb o hb q=>(zN5 _ _ (zN4 (by simpa using hb))).trans q) (λb hb=>by rw[zK3.mp hb];exact fS _ E),λa o q=>N _ _ (st a o q),a3,E,λb hb=>?_,?_,.inr ⟨T,ot,hf,?_,d⟩,W.append (.cons (show RelV (.ref s.heap.objs.size) (.ref s.heap.objs.size)from rfl) .nil),tr.snoc N gx gy gz zk a1⟩⟩)
    (by rw[zK7,t,zO7];lia) (by show(acc.toArray.push _).size<=sizeLine+1;rw[Array.size_push,zK7,t,zO7];lia)
   ·rw[zh]
    ·exact Q b hb
    ·exact zK2 (P b hb)
   ·have g:∀b o,b≠S->h'.get? b=some o->(h'.update S (Obj.mapSeq (·.push (Value.ref s.heap.objs.size)))).get? b=some o:=λb o hb q=>(zN5 _ _ (zN4 hb)).trans q;simp only[z3,zJ1,zK5,zN1,not_or]at p;obtain⟨d1,d2,d3,d4,d5,d6⟩:=p;exact⟨g _ _ (zN4 d6) h.z,g _ _ (zN4 d4) h.ti,g _ _ (zN4 d5) h.to,h.i1.at λo q=>g _ o (zN4 d1) q,h.i2.at λo q=>g _ o (zN4 d2) q,h.i3.at λo q=>g _ o (zN4 d3) q⟩
   ·exact(zN5 _ _ (λz=>d (by rw[<-z];exact zJ6))).trans D
  rcases fr with⟨_,rfl⟩|⟨T,ot,rfl,D,d⟩
  ·refine zI3 (pW h1 h2 h3 Z p1.isList p2.isList p3.isList (by simpa using hu) (by simpa using hv) (by simpa using hw) λh' h C j=>?_);refine main h' _ _ _ _ _ h ⟨s.heap.objs.size,_,rfl,C,?_⟩ C j;intro z;rcases zJ1.mp z with z|z
   ·exact absurd (zJ5 G) (by rw[<-z];exact zO2 _)
   ·exact absurd (P _ z) (zO2 _)
  ·refine zI3 (nR h1 h2 h3 Z D p1.isList p2.isList p3.isList (by simpa using hu) (by simpa using hv) (by simpa using hw) λh' r h C j=>?_);exact main h' _ _ _ _ _ h ⟨T,ot,rfl,j _ _ (λz=>d (zJ2 _ z)) D,d⟩ C j
end
theorem tQ (a b c:Value):checkTypeCall "zip" ⟨[a,b,c],[]⟩=pure ():=by kernel_rfl
theorem rE (a b c:Value):checkBuiltinCall "zip.__new__" ⟨[.type "zip",a,b,c],[]⟩=pure ():=by kernel_rfl
theorem vg (a b c d:Value):argsOk "object.__init__" ⟨[a,b,c,d],[]⟩:=by unfold argsOk;rw[signature?_of (id:="object.__init__") (n:=['_','_','t','i','n','i','_','_']) (o:=['t','c','e','j','b','o']) (by kernel_rfl) PySem.F.owner_object];kernel_rfl
theorem mx :typeLookup (.type "zip") "__len__"=pure none:=by rw[z31,zY0];kernel_rfl
theorem pR :typeLookup (.type "zip") "__length_hint__"=pure none:=by rw[z31,zY0];kernel_rfl
abbrev itO (l:Addr):Obj:={cls:=.type "list_iterator",data:=.fields #[.ref l,.int 0 0]}
abbrev zh3 (h:Heap)(l1 l2 l3:Addr):Heap:=((h.push (itO l1)).push (itO l2)).push (itO l3)
abbrev zh4 (h:Heap)(l1 l2 l3:Addr):Heap:=(zh3 h l1 l2 l3).push (tO3 (.ref h.objs.size) (.ref (h.push (itO l1)).objs.size) (.ref ((h.push (itO l1)).push (itO l2)).objs.size))
abbrev zh5 (h:Heap)(l1 l2 l3:Addr):Heap:=(zh4 h l1 l2 l3).push (tO3 .none .none .none)
abbrev zh6 (h:Heap)(l1 l2 l3:Addr):Heap:=(zh5 h l1 l2 l3).push (zO .none (.bool false) (zh3 h l1 l2 l3).objs.size (zh4 h l1 l2 l3).objs.size)
theorem sV (l1 l2 l3:Addr)(xs ys zs:Array Value):
  Meets (Builtin.«zip.__new__» ⟨[.type "zip",.ref l1,.ref l2,.ref l3],[]⟩) (λ_ R s=>s.heap.IsList l1 xs/\s.heap.IsList l2 ys/\s.heap.IsList l3 zs/\
   R (.ok (.ret (.ref (zh5 s.heap l1 l2 l3).objs.size))) {s with heap:=zh6 s.heap l1 l2 l3}):=
 .of_wp λprog w A R s h=>by
  obtain⟨e,g,d,tk,os⟩:=s;obtain⟨c,b,i,h⟩:=h;have k:=sub_zip;have j:Heap.IsList (Shared.heap ⟨e,g,d,tk,os⟩) l1 xs:=c;have f:Heap.IsList (Shared.heap ⟨e.push {cls:=.type "list_iterator",data:=.fields #[.ref l1,.int 0 0]},g,d,tk,os⟩) l2 ys:=Heap.IsList.push b _;have a:Heap.IsList (Shared.heap ⟨(e.push {cls:=.type "list_iterator",data:=.fields #[.ref l1,.int 0 0]}).push {cls:=.type "list_iterator",data:=.fields #[.ref l2,.int 0 0]},g,d,tk,os⟩) l3 zs:=Heap.IsList.push (Heap.IsList.push i _) _
  wp_walk using zX5 j,zX5 f,zX5 a
  exact⟨_,rfl,h⟩
section
variable {prog:Program}{w:World}{A:Around}{E:Value->Shared->Prop}{s:Shared}
theorem mH {l1 l2 l3:Addr}{xs ys zs:Array Value}{Q:Value->Shared->Prop}(d:s.heap.IsList l1 xs)(b:s.heap.IsList l2 ys)(g:s.heap.IsList l3 zs)
  (h:∀h',xZ h' s.heap.objs.size l1 l2 l3 0 .none (.bool false) .none .none .none->h'.objs.size=s.heap.objs.size+6->(∀c o,s.heap.get? c=some o->h'.get? c=some o)->Q (.ref (s.heap.objs.size+5)) {s with heap:=h'}):
  wpAny (model prog w) A (call (.type "zip") [.ref l1,.ref l2,.ref l3]) Q E s:=by
 refine callType_new PySem.F.called_zip (by decide) (tQ _ _ _) (rE _ _ _) (λobj=>vg obj _ _ _) PySem.F.entry_zip_new
  (sV l1 l2 l3 xs ys zs) ⟨d,b,g,?_⟩
 have j:(s.heap.push (itO l1)).objs.size=s.heap.objs.size+1:=zP8 ..;have i:((s.heap.push (itO l1)).push (itO l2)).objs.size=s.heap.objs.size+2:=by rw[zP8,j]
 have a:(zh3 s.heap l1 l2 l3).objs.size=s.heap.objs.size+3:=by rw[zP8,i]
 have e:(zh4 s.heap l1 l2 l3).objs.size=s.heap.objs.size+4:=by rw[zP8,a]
 have f:(zh5 s.heap l1 l2 l3).objs.size=s.heap.objs.size+5:=by rw[zP8,e]
 have n:(zh6 s.heap l1 l2 l3).objs.size=s.heap.objs.size+6:=by rw[zP8,f]
 have k:(zh6 s.heap l1 l2 l3).get? (zh5 s.heap l1 l2 l3).objs.size=some _:=zJ4 _ rfl;have l:(zh6 s.heap l1 l2 l3).get? (zh4 s.heap l1 l2 l3).objs.size=some _:=zI4 _ (zJ4 _ rfl);have m:(zh6 s.heap l1 l2 l3).get? (zh3 s.heap l1 l2 l3).objs.size=some _:=zI4 _ (zI4 _ (zJ4 _ rfl));have g3:(zh6 s.heap l1 l2 l3).get? ((s.heap.push (itO l1)).push (itO l2)).objs.size=some _:=zI4 _ (zI4 _ (zI4 _ (zJ4 _ rfl)));have g2:(zh6 s.heap l1 l2 l3).get? (s.heap.push (itO l1)).objs.size=some _:=zI4 _ (zI4 _ (zI4 _ (zI4 _ (zJ4 _ rfl))));have g1:(zh6 s.heap l1 l2 l3).get? s.heap.objs.size=some _:=zI4 _ (zI4 _ (zI4 _ (zI4 _ (zI4 _ (zJ4 _ rfl)))));show _/\_;rw[f,e,a]at k;rw[e]at l;rw[a,i,j]at m;rw[i]at g3;rw[j]at g2;rw[f];exact⟨⟨_,k,rfl⟩,h _ ⟨k,m,l,⟨_,g1,rfl,rfl⟩,⟨_,g2,rfl,rfl⟩,⟨_,g3,rfl,rfl⟩⟩ n λc o x=>
  zI4 _ (zI4 _ (zI4 _ (zI4 _ (zI4 _ (zI4 _ x)))))⟩
end
section
variable {X:Cx}{pins:List (Addr×Obj)}{σ:St}{H:Hp}{s:Shared}
theorem jD {A:Around}{R:Result->Shared->Prop}{n l1 l2 l3:Nat}{S:Addr}{xs ys zs:List V}(P:A.handled=none)(h1:l1<n)(Q:l2<n)(h3:l3<n)(I:Inv X pins σ H s)(Z:xZ s.heap n l1 l2 l3 0 .none (.bool false) .none .none .none)(u:s.heap.get? S=some {cls:=.type "list",data:=.seq #[]})
  (B:H S=none) (T:∀b∈z3 n,H b=none) (v:∀H',H' S=none->yT X pins H' S) (fz:∀b∈z3 n,∀H',H' b=none->yT X pins H' b) (r:S∉z3 n)
  (W:SqL X.K H l1 xs) (q2:SqL X.K H l2 ys) (N:SqL X.K H l3 zs) (Y:ys.length=xs.length) (O:zs.length=xs.length) (h0:0<xs.length) (U:xs.length<=1000)
  (hR:∀s',zo3 X pins σ H S xs ys zs s'->R (.ok (.ret .none)) s'):
  wpAny (model X.prog X.w) A.in1 (Builtin.«list.__init__» ⟨[.ref S,.ref (n+5:Nat)],[]⟩)
   (λfin s'=>match fin with|.done f=>R (.ok f) s'|.again c'=>c'.quiet=true/\codeAny (model X.prog X.w) A c' R s') (λe s'=>R (.error e) s') s:=by
 have k:=r;simp only[z3,zJ1,zK5,zN1,not_or]at k;obtain⟨L,J,D,E,M,C⟩:=k;show wpAny _ _ (do let old <-Builtin.List.listItems (.ref S);Builtin.List.listUpdate (.ref S) (λ_=>#[]);letGo old.toList.reverse;Builtin.List.listExtendWith (.ref S) (.ref (n+5:Nat)) .none) _ _ s;refine zI3 ?_;unfold Builtin.List.listItems;refine zI3 (zR8 u rfl (zI6 ?_));show wpAny _ _ (updateSeq S (λ_=>#[]) >>= λ_=>letGo (#[]:Array Value).toList.reverse >>= λ_=>Builtin.List.listExtendWith (.ref S) (.ref (n+5:Nat)) .none) _ _ s;refine zI3 (zV2 u rfl ?_);obtain⟨p,g⟩:∃p,(s.heap.update S (Obj.mapSeq (λ_=>(#[]:Array Value)))).get? S=some {cls:=.type "list",dict:=none,data:=.seq #[] p,slots:=#[]}:=⟨_,zR1 (c:="list") u λ_=>#[]⟩;have d:∀b o,b≠S->s.heap.get? b=some o->(s.heap.update S (Obj.mapSeq (λ_=>(#[]:Array Value)))).get? b=some o:=
  λb o hb e=>(zN5 _ _ (zN4 hb)).trans e
 have t:xZ (s.heap.update S (Obj.mapSeq (λ_=>(#[]:Array Value)))) n l1 l2 l3 0 .none (.bool false) .none .none .none:=⟨d _ _ (zN4 C) Z.z,d _ _ (zN4 E) Z.ti,d _ _ (zN4 M) Z.to,Z.i1.at λo q=>d _ o (zN4 L) q,Z.i2.at λo q=>d _ o (zN4 J) q,Z.i3.at λo q=>d _ o (zN4 D) q⟩;refine zI3 (wpAny_letGo ?_);have G:Inv X pins σ H {s with heap:=s.heap.update S (Obj.mapSeq (λ_=>(#[]:Array Value))),toks:=s.toks}:=I.turnL (ch:=[S]) (λb o hb q=>d b o (by simpa using hb) q) λb hb=>by rw[zK3.mp hb];exact v H B
 have m:({s with heap:=s.heap.update S (Obj.mapSeq (λ_=>(#[]:Array Value)))}:Shared).TypeIs (.ref (n+5:Nat)) "zip":=⟨_,t.z,rfl⟩;unfold Builtin.List.listExtendWith;refine zI3 (wpAny_typeOf m ?_);have b1:Builtin.List.listSameRef (.ref S) (.ref (n+5:Nat))=false:=by simp[Builtin.List.listSameRef];exact C
 have b2:(Value.type "zip" == Value.type "list")=false:=by decide
 have b3:(Value.type "zip" == Value.type "tuple")=false:=by decide
 simp only[b1,b2,b3,Bool.or_false,zR5,zY2];refine zI3 (wpAny_pyIter_slot m PySem.F.slot_zip_iter (zP0 PySem.F.slot_zip_iter m PySem.F.entry_zip_iter ?_ (PySem.F.args_zip_iter_1 _)));show wpAny _ _ (ret (.ref (n+5:Nat))) _ _ _;refine zI6 ⟨_,rfl,"zip",_,m,zR3.lookup,?_⟩;refine zI3 (zN7 ?_);unfold Builtin.List.listLengthHint;refine zI3 (z29 m mx ?_);show wpAny _ _ (specialOf (Value.ref (n+5:Nat)) (Str.ofString "__length_hint__") >>= _) _ _ _;refine zI3 (z29 m pR ?_);refine zI6 ?_;have key:∀(h:Heap) (e:Nat),h.get? S=some {cls:=.type "list",dict:=none,data:=.seq #[] e,slots:=#[]}->(∀b o,b≠S->s.heap.get? b=some o->h.get? b=some o)->codeAny (model X.prog X.w) A (.builtin "list.extend.loop" ⟨[.ref S,.ref (n+5:Nat),.none],[]⟩) R {s with heap:=h}:=by
  intro h e y a;refine jU P h1 Q h3 v fz r W q2 N Y O h0 U hR xs.length 0 _ (by lia) (zJ8 _) ⟨H,[],[],e,.none,.bool false,.none,.none,.none,I.turnL (t':=s.toks) (ch:=[S]) (λb o hb q=>a b o (by simpa using hb) q) (λb hb=>by rw[zK3.mp hb];exact v H B),λ_ _ e=>e,y,B,T,?_,.inl ⟨rfl,rfl⟩,.nil,rfl,λj hj=>absurd hj (zZ6 _)⟩;exact⟨a _ _ (zN4 C) Z.z,a _ _ (zN4 E) Z.ti,a _ _ (zN4 M) Z.to,Z.i1.at λo q=>a _ o (zN4 L) q,Z.i2.at λo q=>a _ o (zN4 J) q,Z.i3.at λo q=>a _ o (zN4 D) q⟩
 refine zM8 (λ_=>?_) (λ_=>zI6 ⟨zW9 zT4 _,key _ _ g d⟩);refine zI3 (zR7 ?_);refine zI3 ?_;show wpAny _ _ (updateSeq S (·.push .none) >>= λ_=>updateSeq S (·.pop)) _ _ _;refine zI3 (zV2 g rfl ?_);obtain⟨a0,i⟩:∃p,((s.heap.update S (Obj.mapSeq (λ_=>(#[]:Array Value)))).update S (Obj.mapSeq (·.push Value.none))).get? S=some {cls:=.type "list",dict:=none,data:=.seq #[.none] p,slots:=#[]}:=⟨_,zR1 (c:="list") g λx=>x.push Value.none⟩;refine zV2 (hz:=by seq_fits) i rfl ?_;obtain⟨a1,l⟩:∃p,(((s.heap.update S (Obj.mapSeq (λ_=>(#[]:Array Value)))).update S (Obj.mapSeq (·.push Value.none))).update S (Obj.mapSeq (·.pop))).get? S=some {cls:=.type "list",dict:=none,data:=.seq #[] p,slots:=#[]}:=⟨_,zR1 (c:="list") i λx=>x.pop⟩;refine zI6 ⟨zW9 zT4 _,key _ _ l λb o hb e=>?_⟩;exact(zN5 _ _ (zN4 hb)).trans ((zN5 _ _ (zN4 hb)).trans (d b o hb e))
end
section
variable {X:Cx}{pins:List (Addr×Obj)}{σ:St}{H:Hp}{s:Shared}
theorem sA {A:Around}{E:Value->Shared->Prop}{Q:Value->Shared->Prop}{n l1 l2 l3:Nat}{xs ys zs:List V}(p:A.handled=none)(B:l1<n)(r:l2<n)(C:l3<n)(I:Inv X pins σ H s)(Z:xZ s.heap n l1 l2 l3 0 .none (.bool false) .none .none .none)
  (t:∀b∈z3 n,H b=none) (y:∀b∈z3 n,∀H',H' b=none->yT X pins H' b)
  (f:SqL X.K H l1 xs) (g:SqL X.K H l2 ys) (d:SqL X.K H l3 zs) (x:ys.length=xs.length) (l:zs.length=xs.length) (h0:0<xs.length) (u:xs.length<=1000)
  (v:∀D s',s.heap.objs.size<=D->zo3 X pins σ H D xs ys zs s'->(∀H',H' D=none->yT X pins H' D)->Q (.ref D) s'):
  wpAny (model X.prog X.w) A (call (.type "list") [.ref (n+5:Nat)]) Q E s:=by
 refine callType_codes (Q₁:=λobj a=>obj=.ref s.heap.objs.size/\a={s with heap:=s.heap.push {cls:=.type "list",data:=.seq #[]}}) PySem.F.called_list (PySem.F.typeCall_list_1 _) PySem.F.entry_list_init
  (code_list_new _ ⟨rfl,rfl⟩) λobj a c=>?_
 obtain⟨rfl,rfl⟩:=c;have j:(s.heap.push {cls:=.type "list",data:=.seq #[]}).get? s.heap.objs.size=some {cls:=.type "list",data:=.seq #[]}:=zJ4 _ rfl;have up:∀b o,s.heap.get? b=some o->(s.heap.push {cls:=.type "list",data:=.seq #[]}).get? b=some o:=λb o e=>zI4 _ e;have k:∀H':Hp,H' s.heap.objs.size=none->yT X pins H' s.heap.objs.size:=λH' h=>I.fpOk (zJ0 _) h;have i:s.heap.objs.size∉z3 n:=λhb=>by
  have:∃o,s.heap.get? s.heap.objs.size=some o:=by
   simp only[z3,zJ1,zK5,zN1]at hb;obtain⟨J,f,_⟩:=Z.i1;obtain⟨L,g,_⟩:=Z.i2;obtain⟨G,d,_⟩:=Z.i3;rcases hb with z|z|z|z|z|z<;>rw[z]
   ·exact⟨_,f⟩
   ·exact⟨_,g⟩
   ·exact⟨_,d⟩
   ·exact⟨_,Z.ti⟩
   ·exact⟨_,Z.to⟩
   ·exact⟨_,Z.z⟩
  obtain⟨o,q⟩:=this;exact absurd (zJ5 q) (zO2 _)
 refine⟨⟨_,j,rfl⟩,PySem.F.args_list_init_2 _ _,jD (A:=A.in1) p B r C (I.kept (t':=s.toks) up) ⟨up _ _ Z.z,up _ _ Z.ti,up _ _ Z.to,Z.i1.at λo q=>up _ o q,Z.i2.at λo q=>up _ o q,Z.i3.at λo q=>up _ o q⟩ j (I.hok.fresh (zJ0 _)) t k y i f g d x l h0 u λs' m=>⟨rfl,v _ s' (zJ0 _) m k⟩⟩
variable {a b c:Expr}{p p0 pos pos2:Pos}
theorem pz {M:TA}(hc:X.calm=true)(hgl:Gl X "list")(x:X.mg "list"=none)(hg:Gl X "zip")(hm:X.mg "zip"=none)(ha:PA X [a,b,c] M)
  (r:starEach [.Call (.Name "zip" p) [a,b,c] [] pos2] X.env=[(false,eval (.Call (.Name "zip" p) [a,b,c] [] pos2) X.env)]:=by rfl)
  (W:starEach [a,b,c] X.env=(false,eval a X.env)::starEach [b,c] X.env:=by rfl) (hpl:(backTo pos2 (starEach [b,c] X.env)).any (·.1)=false:=by rfl):
  PE X (.Call (.Name "list" p0) [.Call (.Name "zip" p) [a,b,c] [] pos2] [] pos) (λσ H Q=>M σ H λvs H1=>∃(l1 l2 l3:Addr) (xs ys zs:List V),vs=[.ref l1,.ref l2,.ref l3]/\SqL X.K H1 l1 xs/\SqL X.K H1 l2 ys/\SqL X.K H1 l3 zs/\ys.length=xs.length/\zs.length=xs.length/\0<xs.length/\xs.length<=1000/\
   ∀D H' vs,H1 D=none->(∀a o,H1 a=some o->H' a=some o)->H' D=some (.lst vs)->(∃j,(∀a o,j a=some o->a≠D/\H' a=some o)/\Tri H1 j xs ys zs vs xs.length)->Q (.ref D) H'):=by
 intro pins s σ H Q I h;refine Call_ (xF I hgl x boot_list (zP3 ?_ r rfl));rw[r];show wpAny _ _ (spliced ((false,eval _ X.env)::backTo pos [])) _ _ s;refine Calls.spliced_cons ?_;refine Call_ (xF I hg hm boot_zip (zP3 (thn (ha pos2 pins s σ H _ I h) λus s1 E=>?_) W hpl));obtain⟨vs,H1,f,d,q1⟩:=E;obtain⟨l1,l2,l3,xs,ys,zs,e,l,m,k,e2,S,h0,O,q⟩:=q1;subst e;obtain⟨u,v,w,rfl,T,rv,B⟩:∃u v w,us=[u,v,w]/\RelV (.ref l1) u/\RelV (.ref l2) v/\RelV (.ref l3) w:=by
  cases d with
  |cons a d=>
   cases d with
   |cons b d=>
    cases d with
    |cons c d=>
     cases d;exact⟨_,_,_,rfl,a,b,c⟩
 cases(show u=Value.ref l1 from T);cases(show v=Value.ref l2 from rv);cases(show w=Value.ref l3 from B);obtain⟨L,a2,p1,a0⟩:=f.list l;obtain⟨R,a4,p2,Y⟩:=f.list m;obtain⟨P,a3,p3,a1⟩:=f.list k;refine mH p1.isList p2.isList p3.isList λh' Z sz hk=>?_;have F:l1<s1.heap.objs.size:=by obtain⟨o,e,_⟩:=p1.isList;exact zJ5 e
 have C:l2<s1.heap.objs.size:=by obtain⟨o,e,_⟩:=p2.isList;exact zJ5 e
 have A:l3<s1.heap.objs.size:=by obtain⟨o,e,_⟩:=p3.isList;exact zJ5 e
 have le:∀b∈z3 s1.heap.objs.size,s1.heap.objs.size<=b:=λb hb=>by
  simp only[z3,zJ1,zK5,zN1]at hb;have key:∀n b:Nat,(b=n\/b=n+1\/b=n+2\/b=n+3\/b=n+4\/b=n+5)->n<=b:=λn b h=>by lia
  exact key _ _ hb
 have N:Inv X pins σ H1 {s1 with heap:=h',toks:=s1.toks}:=f.kept λb o e=>hk b o e;refine zN9 (Q:=_) (show wpAny _ _ (spliced []) (λvs i=>vs=[]/\i={s1 with heap:=h'}) X.xe {s1 with heap:=h'}from zI6 ⟨rfl,rfl⟩) (λvs s2 hv=>?_) λ_ _ z=>z;obtain⟨rfl,rfl⟩:=hv;refine sA (s:={s1 with heap:=h'}) (I.ok.hd hc) F C A N Z (λb hb=>f.hok.fresh (le b hb)) (λb hb H' hn=>f.fpOk (le b hb) hn) l m k e2 S h0 O λD s' lD U fD=>?_;obtain⟨H',acc,vs,e,I',st,hD,J,y,g⟩:=U.ex;have G:H1 D=none:=N.hok.fresh lD;have t:∀a o,H' a=some o->a≠D/\upd H' D (.lst vs) a=some o:=λa o q=>by
  have n:a≠D:=λz=>by rw[z,J]at q;cases q
  exact⟨n,by rw[zh n];exact q⟩
 refine⟨.ref D,upd H' D (.lst vs),I'.adopt (fD H' J) ⟨?_,acc,e,y,hD⟩,rfl,q D _ vs G (λa o q=>(t a o (st a o q)).2) zk ⟨H',t,g⟩⟩;rw[g.1,zO7];exact zz1 O
end
def bU (a b c:PyData):PyData:=.tuple [a,b,c]
def xM :List PyData->List PyData->List PyData->List PyData
 |a::as,b::bs,c::cs=>bU a b c::xM as bs cs
 |_,_,_=>[]
theorem vZ :∀{as bs cs:List PyData},bs.length=as.length->cs.length=as.length->(xM as bs cs).length=as.length
 |[],_,_,_,_=>rfl
 |a::as,b::bs,c::cs,d,e=>by rw[xM,zM0,zM0,vZ (by simpa using d) (by simpa using e)]
theorem uz :∀{as bs cs:List PyData}{j:Nat}{d:PyData},(xM as bs cs)[j]?=some d->∃a b c,as[j]?=some a/\bs[j]?=some b/\cs[j]?=some c/\d=bU a b c
 |[],_,_,j,d,h=>by simp[xM]at h
 |a::as,[],_,j,d,h=>by simp[xM]at h
 |a::as,b::bs,[],j,d,h=>by simp[xM]at h
 |a::as,b::bs,c::cs,0,d,h=>by simp[xM]at h;exact⟨a,b,c,rfl,rfl,rfl,h.symm⟩
 |a::as,b::bs,c::cs,j+1,d,h=>by
  obtain⟨x,y,z,e1,f,e,g⟩:=uz (as:=as) (bs:=bs) (cs:=cs) (j:=j) (d:=d) (by simpa[xM]using h);exact⟨x,y,z,by simpa using e1,by simpa using f,by simpa using e,g⟩
theorem lO {G:Hp}:∀{vs:List V}{ds:List PyData},vs.length=ds.length->(∀(j:Nat) d,ds[j]?=some d->∃v,vs[j]?=some v/\AV G v d)->AVs G vs ds
 |[],[],_,_=>.nil
 |v::vs,d::ds,b,h=>by
  obtain⟨c,e,a⟩:=h 0 d rfl;cases e;exact .cons a (lO (by simpa using b) λj d' hd=>h (j+1) d' (by simpa using hd))
section
variable {X:Cx}{α:Ev}{a b c:Expr}{p p0 pos pos2:Pos}
theorem pZ {Q:List PyData->Prop}(hc:X.calm=true)(hgl:Gl X "list")(n:X.mg "list"=none)(hg:Gl X "zip")(hm:X.mg "zip"=none)
  (h:EvA X α [a,b,c] λas=>∃ds es fs,as=[.dat (.list ds),.dat (.list es),.dat (.list fs)]/\es.length=ds.length/\fs.length=ds.length/\0<ds.length/\ds.length<=1000/\Q (xM ds es fs))
  (r:starEach [.Call (.Name "zip" p) [a,b,c] [] pos2] X.env=[(false,eval (.Call (.Name "zip" p) [a,b,c] [] pos2) X.env)]:=by rfl)
  (L:starEach [a,b,c] X.env=(false,eval a X.env)::starEach [b,c] X.env:=by rfl) (hpl:(backTo pos2 (starEach [b,c] X.env)).any (·.1)=false:=by rfl):
  EvL X α (.Call (.Name "list" p0) [.Call (.Name "zip" p) [a,b,c] [] pos2] [] pos) Q:=λF σ H R m k=>by
 refine⟨_,pz hc hgl n hg hm yN r L hpl,?_⟩;refine h F σ H _ m λas vs H1 M t1 u f=>?_;have m1:=m.kz u t1;obtain⟨ds,es,fs,rfl,l2,l3,V,lN,q⟩:=M;cases f with
 |cons O f=>
  cases f with
  |cons W f=>
   cases f with
   |cons r3 f=>
    cases f;obtain⟨a1,xs,rfl,g1,A⟩:=AV.lst_inv O;obtain⟨a2,ys,rfl,g2,C⟩:=AV.lst_inv W;obtain⟨a3,zs,rfl,g3,B⟩:=AV.lst_inv r3;have g:=A.length;have y2:=C.length;have S:=B.length;refine⟨a1,a2,a3,xs,ys,zs,rfl,SqL.of (zj g1).2,SqL.of (zj g2).2,SqL.of (zj g3).2,(y2.trans (l2.trans g.symm)),(S.trans (l3.trans g.symm)),(zI9 V (zL7 g.symm)),(zK1 (zL7 g) lN),λD H' vs l st v tr=>?_⟩;obtain⟨K,sb,i⟩:=tr;have G:zv H1 H':=λa o e=>st a o e;refine k _ _ H' q (t1.same G) (u.trans (Kz.of_same G)) ⟨D,vs,rfl,?_,v,?_⟩
    ·cases z:H D with
     |none=>rfl
     |some o=>rw[u D o z (m.tp.nt (ow0 (m1.fresh l)))]at l;cases l
    ·have s:zv (Gz F α σ H1) (sub (λx=>¬Ow F α σ x/\x≠D) H'):=zu λa o h e=>⟨⟨h,zl e l⟩,st a o e⟩;refine lO (by rw[i.1,vZ l2 l3];exact g) λj d hd=>?_;obtain⟨d1,d2,d3,e1,N,I,rfl⟩:=uz hd;have hj:j<xs.length:=by rw[g];exact(zI8.mp e1).1
     obtain⟨t,x,y,z,f1,f2,Z,f4,P,U⟩:=i.2 j hj;obtain⟨x',ex,Y⟩:=A.get e1;obtain⟨y',w,T⟩:=C.get N;obtain⟨z',E,J⟩:=B.get I;rw[f2]at ex;cases ex;rw[Z]at w;cases w;rw[f4]at E;cases E;obtain⟨nt,ht⟩:=sb t _ P;exact⟨_,f1,.tup (zF ⟨m1.fresh U,nt⟩ ht) (.cons (Y.same s) (.cons (T.same s) (.cons (J.same s) .nil)))⟩
theorem mW {ns:List Int}{its:List Value}(h:Vals (ns.map V.int) its):∃ps:List (Int×Tok),its=ps.map (λp=>Value.int p.1 p.2)/\ps.map (·.1)=ns:=by
 induction ns generalizing its with
 |nil=>cases h;exact⟨[],rfl,rfl⟩
 |cons n ns e=>cases h with
  |cons h d=>
   obtain⟨ps,e1,f⟩:=e d;obtain⟨t,rfl⟩:=h;exact⟨(n,t)::ps,by rw[e1];rfl,by rw[<-f];rfl⟩
theorem tY (ps:List (Int×Tok))(k:Nat):numAt ps.toArray k=(ps.map (·.1)).getD k 0:=by
 unfold numAt;rw[List.getElem?_toArray,zJ7,zK0]
theorem wc (ps:List (Int×Tok)):∀k,k<=ps.length->preSum (numAt ps.toArray) k=((ps.map (·.1)).take k).sum
 |0,_=>by simp[preSum]
 |k+1,h=>by
  have hk:k<(ps.map (·.1)).length:=by rw[zI5];exact zI9 (zO3 _) h
  rw[preSum,wc ps k (zK1 (zL0 _ _) h),tY,zQ8,zI7 hk,List.sum_append,zJ7,zI7 hk];simp
def Fits (ns:List Int):Prop:=∀k,k<=ns.length->-(2 ^ 62)<=(ns.take k).sum/\(ns.take k).sum<2 ^ 62
theorem jC (i:X.calm=true):xx X (.builtin "sum") (λxs H Q=>∃(l:Addr) (ns:List Int),xs=[.ref l]/\SqL X.K H l (ns.map V.int)/\(∀n∈ns,-(2 ^ 62)<=n/\n<2 ^ 62)/\Fits ns/\Q (.int ns.sum) H):=by
 intro pins s σ H xs us Q I r h;obtain⟨l,ns,rfl,m,hb,hf,q⟩:=h;obtain⟨u,rfl,v⟩:=Vals.one r;cases(show u=Value.ref l from v);obtain⟨its,o,p,hz⟩:=I.list m;obtain⟨ps,rfl,rfl⟩:=mW o;have k:s.heap.IsList l (intItems ps.toArray):=by
  have:=p.isList
  rwa [show intItems ps.toArray=(ps.map λp=>Value.int p.1 p.2).toArray by simp[intItems]]
 refine sum_intList (I.ok.hd i) k (λj t=>?_) λh' tk t' hk=>?_
 ·have d:j<ps.length:=by simpa using t
  have hk:j<(ps.map (·.1)).length:=by rw[zI5];exact d
  rw[wc ps (j+1) (d),tY,zJ7,zI7 hk];have e:=hb _ (zT1 hk);have g:=hf (j+1) (hk);refine⟨⟨?_,?_⟩,?_,?_⟩
  ·show -(2 ^ 63)<=(ps.map (·.1))[j];exact zf7 e.1
  ·show(ps.map (·.1))[j]<2 ^ 63;exact zi9 e.2
  ·exact zf7 g.1
  ·exact zi9 g.2
 ·rw[show preSum (numAt ps.toArray) ps.toArray.size=(ps.map (·.1)).sum by rw[zK7,wc ps ps.length (zJ0 _),<-zI5 (f:=(·.1)) (as:=ps),zO4]];exact⟨.int _,H,I.kept (t':=tk) hk,⟨_,rfl⟩,q⟩
theorem bp {Q:PyData->Prop}{e:Expr}(f:X.calm=true)(hg:Gl X "sum")(hm:X.mg "sum"=none)(h:EvD X α e λx=>∃ns:List Int,x=.list (ns.map .int)/\(∀n∈ns,-(2 ^ 62)<=n/\n<2 ^ 62)/\Fits ns/\Q (.int ns.sum))(he:starEach [e] X.env=(false,eval e X.env)::starEach [] X.env:=by rfl):
  EvD X α (.Call (.Name "sum" p) [e] [] pos) Q:=by
 refine vT (jC f) hg hm boot_sum (zm (h.imp λx d=>?_) he) (he:=he);obtain⟨ns,e1,hb,hf,q⟩:=d;refine zx ?_;intro F σ H vs R m i k;subst e1;obtain⟨v,rfl,av⟩:=i.one;obtain⟨a,xs,rfl,g,j⟩:=av.lst_inv;cases j.ints;exact⟨a,ns,rfl,SqL.of (zj g).2,hb,hf,k _ _ H q m.tp Kz.refl (.int _)⟩
end
def yR :List Int->List Bool->List Int
 |z::zs,b::bs=>if b=true then yR zs bs else z::yR zs bs
 |_,_=>[]
theorem ug :∀{zs:List Int}{bs:List Bool}{z:Int},z∈yR zs bs->z∈zs
 |[],_,z,h=>by simp[yR]at h
 |y::zs,[],z,h=>by simp[yR]at h
 |y::zs,b::bs,z,h=>by
  rw[yR]at h;split at h
  ·exact zJ2 _ (ug h)
  ·rcases zJ1.mp h with e|h
   ·rw[e];exact zJ6
   ·exact zJ2 _ (ug h)
theorem rN :∀(zs:List Int) (bs:List Bool),(yR zs bs).length<=zs.length
 |[],_=>by simp[yR]
 |y::zs,[]=>by simp[yR]
 |y::zs,b::bs=>by
  rw[yR];have:=rN zs bs;split
  ·rw[zM0];exact zK1 this (zL0 _ _)
  ·rw[zM0,zM0];exact Nat.add_le_add this (zJ0 _)
theorem sum_bound :∀{ns:List Int}{m:Int},0<=m->(∀n∈ns,0<=n/\n<=m)->0<=ns.sum/\ns.sum<=ns.length*m
 |[],m,_,_=>by simp
 |n::ns,m,h0,h=>by
  obtain⟨a,b⟩:=sum_bound h0 λx c=>h x (zJ2 _ c);have:=h n zJ6;rw[List.sum_cons,zM0,Int.natCast_add,Int.add_mul]
  constructor
  ·exact Int.add_nonneg this.1 a
  ·simp;exact zH4 this.2 b
theorem mB {ns:List Int}(h:∀n∈ns,0<=n/\n<=1000000000000)(c:ns.length<=1000):Fits ns:=λk hk=>by
 obtain⟨a,b⟩:=sum_bound (ns:=ns.take k) (m:=1000000000000) (by decide) λn hn=>h n (zS0 hn);have:((ns.take k).length:Int)*1000000000000<=1000*1000000000000:=by
  apply Int.mul_le_mul_of_nonneg_right _ (by decide);rw[zO9];exact zG1 c
 lia
def zk2 (p:Nat):PyData->PyData
 |.tuple [a,b,c]=>if p=1 then b else c
 |_=>.none
def tI :PyData->Bool
 |.tuple [_,_,.bool b]=>b
 |_=>false
theorem tR :∀{ds:List PyData}{zs:List Int}{bs:List Bool},zs.length=ds.length->bs.length=ds.length->((xM ds (zs.map .int) (bs.map .bool)).filter λd=>!tI d).map (zk2 1)=(yR zs bs).map .int
 |[],[],[],_,_=>rfl
 |d::ds,z::zs,b::bs,c,e=>by
  have a:=tR (ds:=ds) (zs:=zs) (bs:=bs) (by simpa using c) (by simpa using e);rw[zM9,zM9,xM,yR,zW4];cases b with
  |true=>simpa[tI,bU]using a
  |false=>simp[tI,bU,zk2];exact a
def xY (d:PyData)(zs:List Int)(bs:List Bool):Prop:=(d=.none/\bs=List.replicate zs.length false)\/∃many free:Nat,d=.tuple [.int many,.int free]/\tm zs many free zs.length bs
theorem xY.len {d:PyData}{zs:List Int}{bs:List Bool}(h:xY d zs bs):bs.length=zs.length:=by
 rcases h with⟨_,rfl⟩|⟨_,_,_,h⟩
 ·simp
 ·exact h.1
def cj (d:PyData):Prop:=d=.none\/∃many free:Nat,d=.tuple [.int many,.int free]/\0<free/\free<many/\many<64
theorem oE {many free:Nat}{zs:List Int}{bs:List Bool}(h:xY (.tuple [.int many,.int free]) zs bs):tm zs many free zs.length bs:=by
 rcases h with⟨h,_⟩|⟨e,c,h,mk⟩
 ·cases h
 ·injection h with h;injection h with b a;injection a with a _;injection b with b;injection a with a;have e1:e=many:=(zf0 b);have d:c=free:=(zf0 a);rw[e1,d]at mk;exact mk
section
variable {κ:Type}[DecidableEq κ]
def rj (kvs:List (κ×V))(k:κ):Option V:=(kvs.find? λa=>decide (a.1=k)).map (·.2)
theorem sH {p:κ×V}{r:List (κ×V)}{k:κ}(e:p.1=k):rj (p::r) k=some p.2:=by simp[rj,zO8,e]
theorem sM {p:κ×V}{r:List (κ×V)}{k:κ}(e:¬p.1=k):rj (p::r) k=rj r k:=by simp[rj,zO8,e]
theorem wW.isSome_eq {o:Option V}{u:Option Value}(r:wW o u):o.isSome=u.isSome:=by
 cases o with
 |none=>cases u with
  |none=>rfl
  |some _=>exact(show False from r).elim
 |some _=>cases u with
  |none=>exact(show False from r).elim
  |some _=>rfl
theorem KV.val {kvs:List (κ×V)}{vs:List (κ×Value)}(r:KV kvs vs)(k:κ):wW (rj kvs k) (valueAt vs k):=by
 unfold KV at r
 induction r with
 |nil=>exact True.intro
 |@cons p q ps qs h t ih=>
  obtain⟨c,d⟩:=h;by_cases e:p.1=k
  ·have a:q.1=k:=c.symm.trans e;have b:valueAt (q::qs) k=some q.2:=by simp[valueAt,zO8,a]
   rw[sH e,b];exact d
  ·have a:¬q.1=k:=λz=>e (c.trans z);have b:valueAt (q::qs) k=valueAt qs k:=by simp[valueAt,zO8,a]
   rw[sM e,b];exact ih
end
theorem gP {P:Program}{w:World}{k:Key}{u:Value}(r:RelV (kV k) u):(yA P w).is k u=true:=by
 cases k with
 |inl i=>obtain⟨t,e⟩:=(show ∃t,u=Value.int i t from r);subst e;exact pE P w i t
 |inr x=>obtain⟨t,e⟩:=(show ∃t,u=Value.str x t from r);subst e;exact oS P w x t
theorem rR {P:Program}{w:World}:∀{ks:List Key}{us:List Value},Vals (ks.map kV) us->ItemsAre (yA P w) ks us
 |[],_,r=>by rw[List.map_nil]at r;cases r;exact .nil
 |k::ks,_,r=>by
  rw[zM9]at r;cases r with
  |cons h t=>exact .cons (gP h) (rR t)
abbrev KT (H:Hp):List (List Key×V)->List (List Key×Addr×Value)->Prop:=Paired λp q=>p.1=q.1/\H q.2.1=some (.tup (p.1.map kV))/\RelV p.2 q.2.2
theorem KT.val {H:Hp}{kvs:List (List Key×V)}{xs:List (List Key×Addr×Value)}(r:KT H kvs xs)(k:List Key):wW (rj kvs k) ((atKey xs k).map (·.2)):=by
 induction r with
 |nil=>exact True.intro
 |@cons p q ps qs h t ih=>
  obtain⟨c,_,d⟩:=h;by_cases e:p.1=k
  ·have a:q.1=k:=c.symm.trans e;have b:atKey (q::qs) k=some q.2:=by simp[atKey,zO8,a]
   rw[sH e,b];exact d
  ·have a:¬q.1=k:=λz=>e (c.trans z);have b:atKey (q::qs) k=atKey qs k:=by simp[atKey,zO8,a]
   rw[sM e,b];exact ih
section
variable {P:Program}{w:World}{H:Hp}{h:Heap}{a:Addr}
theorem zf4 {u:HO}(ok:HOk P w H h)(e:Rd H a u):zS P w H h a u:=e.ok ok
theorem gR {kvs:List (Key×V)}(ok:HOk P w H h)(e:Rd H a (.dK kvs)):kvs.length<=sizeLine/\(a == sysModules)=false/\∃vs,KV kvs vs/\h.DictOf (yA P w) a vs:=
 show zS P w H h a (.dK kvs)from zf4 ok e
theorem mJ {ks:List Key}(ok:HOk P w H h)(e:H a=some (.tup (ks.map kV))):(tupleKind (yA P w)).is h ks a:=by
 obtain⟨_,its,r,o,c,d,n,b⟩:=(show zS P w H h a (.tup (ks.map kV))from ok a _ e);exact⟨o,its.toArray,n,c,d,b,by simpa using rR r⟩
theorem di {kvs:List (List Key×V)}(ok:HOk P w H h)(e:Rd H a (.dT kvs)):kvs.length<=sizeLine/\(a == sysModules)=false/\
  ∃xs,KT H kvs xs/\h.DictOfH (tupleKind (yA P w)) a xs:=by
 obtain⟨z,y,xs,r,o,es,ep,d,f,g,i,c⟩:=(show zS P w H h a (.dT kvs)from zf4 ok e);refine⟨z,y,xs,r,o,es,ep,d,f,g,i,λx b=>?_,c⟩;have all:∀{l:List (List Key×V)} {m:List (List Key×Addr×Value)},KT H l m->∀x∈m,(tupleKind (yA P w)).is h x.1 x.2.1:=by
  intro l m q
  induction q with
  |nil=>intro x b;exact nomatch b
  |@cons p q ps qs hq t ih=>
   intro x b;rcases zJ1.mp b with e|b
   ·subst e;exact mJ ok (by rw[<-hq.1];exact hq.2.1)
   ·exact ih x b
 exact all r x b
end
def fO (H:Hp)(a:Addr)(y:V)(r:Option V):Prop:=
 (∃kvs k,Rd H a (.dK kvs)/\y=kV k/\r=rj kvs k)\/∃kvs k b,Rd H a (.dT kvs)/\y=.ref b/\H b=some (.tup (k.map kV))/\r=rj kvs k
section
variable {X:Cx}{pins:List (Addr×Obj)}{σ:St}{H:Hp}{s:Shared}{a:Addr}{y v:V}{u r:Value}{o:Option V}{A:Around}{E:Value->Shared->Prop}
theorem jF {Q:Value->Shared->Prop}(n:A.units+1<cLine)(I:Inv X pins σ H s)(g:fO H a y (some v))(m:RelV y u)(h:∀d s',Inv X pins σ H s'->RelV v d->Q d s'):
  wpAny (model X.prog X.w) A (getItem (.ref a) u) Q E s:=by
 rcases g with⟨kvs,k,e,i,l⟩|⟨kvs,k,b,e,i,q,l⟩
 ·subst i;obtain⟨z,hd,vs,rel,j⟩:=gR I.hok e;obtain⟨d,hw,c⟩:=wW.some_of (v:=v) (o:=valueAt vs k) (by rw[l];exact rel.val k);exact wpAny_getItem_of (gP m) j.mapOf hw (h d _ (I.tok _) c)
 ·subst i;cases(show u=Value.ref b from m);obtain⟨z,hd,xs,rel,j⟩:=di I.hok e;obtain⟨d,hw,c⟩:=wW.some_of (v:=v) (o:=(atKey xs k).map (·.2)) (by rw[l];exact rel.val k);obtain⟨p,t,f⟩:=zL5.mp hw;refine wpAny_getItem_heap (tupleKind_room_in1 n) (mJ I.hok q) j t ?_;rw[f];exact h d _ (I.tok _) c
theorem zG5 {Q:Value->Shared->Prop}(i:A.units+1<cLine)(I:Inv X pins σ H s)(g:fO H a y o)(f:RelV y u)(h:∀s',Inv X pins σ H s'->Q (.bool o.isSome) s'):
  wpAny (model X.prog X.w) A (compareOp .In u (.ref a)) Q E s:=by
 rcases g with⟨kvs,k,e,c,l⟩|⟨kvs,k,b,e,c,j,l⟩
 ·subst c;obtain⟨z,hd,vs,rel,d⟩:=gR I.hok e;refine wpAny_in_of (gP f) hd d.mapOf ?_;rw[<-(rel.val k).isSome_eq,<-l];exact h _ (I.tok _)
 ·subst c;cases(show u=Value.ref b from f);obtain⟨z,hd,xs,rel,d⟩:=di I.hok e;refine wpAny_in_heap (tupleKind_room_in1 i) (mJ I.hok j) hd d ?_;have q:=(rel.val k).isSome_eq;rw[Option.isSome_map]at q;rw[<-q,<-l];exact h _ (I.tok _)
end
section
variable {X:Cx}{pins:List (Addr×Obj)}{σ:St}{H:Hp}{s:Shared}{a:Addr}{kvs:List (Key×V)}{k:Key}{u:Value}{A:Around}{E:Value->Shared->Prop}
end
theorem nq {X:Cx}{pins:List (Addr×Obj)}{σ:St}{H:Hp}{s:Shared}{a:Addr}{y:V}{o:Option V}(I:Inv X pins σ H s)(g:fO H a y o):s.TypeIs (.ref a) "dict":=by
 rcases g with⟨kvs,k,e,_,_⟩|⟨kvs,k,b,e,_,_,_⟩
 ·obtain⟨_,_,vs,_,c⟩:=gR I.hok e;exact c.typeIs
 ·obtain⟨_,_,xs,_,c⟩:=di I.hok e;exact c.typeIs
section
variable {X:Cx}{o i e value:Expr}{pos pos' tpos:Pos}{td ty tv:TE}
end
section
variable {X:Cx}{pos:Pos}
end
section
variable {X:Cx}{pins:List (Addr×Obj)}{σ:St}{H:Hp}{s:Shared}{a:Addr}{y d:V}{u r:Value}{o:Option V}{A:Around}{E:Value->Shared->Prop}
end
section
variable {X:Cx}{o e f:Expr}{apos cpos:Pos}{td ty tx:TE}
end
section
variable {X:Cx}{pins:List (Addr×Obj)}{σ:St}{H:Hp}{s:Shared}{a:Addr}{kvs:List (Key×V)}{A:Around}{E:Value->Shared->Prop}
end
section
variable {X:Cx}{pins:List (Addr×Obj)}{σ:St}{H:Hp}{s:Shared}{a:Addr}{y:V}{u:Value}{A:Around}{E:Value->Shared->Prop}
end
def kEq :PyData->Key->Bool
 |.int i,.inl j=>decide (i=j)
 |.str x,.inr y=>decide (x=y)
 |_,_=>false
theorem dz (k j:Key):kEq (oP k) j=decide (k=j):=by
 cases k<;>cases j<;>simp[kEq,oP]
def ak :List (PyData×PyData)->Key->Option PyData
 |[],_=>none
 |(p,d)::r,k=>if kEq p k=true then some d else ak r k
theorem AVk.get {H:Hp}:∀{kvs:List (Key×V)}{ds:List (PyData×PyData)}{k:Key}{d:PyData},AVk H kvs ds->ak ds k=some d->∃v,rj kvs k=some v/\AV H v d
 |_,_,k,d,.nil,e=>by cases e
 |_,_,k,d,.cons (k:=j) h r,e=>by
  unfold ak at e;rw[dz]at e;by_cases z:j=k
  ·rw[zM1 z,if_pos rfl]at e;cases e;exact⟨_,sH z,h⟩
  ·rw[zL2 z,if_neg (by decide)]at e;rw[sM z];exact AVk.get r e
theorem aT {H:Hp}{v:V}{k:Key}(h:AV H v (oP k)):v=kV k:=by
 cases k with
 |inl i=>exact h.int_inv
 |inr x=>exact h.str_inv
theorem AV.dk_inv {H:Hp}{v:V}{ds:List (PyData×PyData)}(h:AV H v (za3 ds)):∃a o kvs,v=.ref a/\H a=some (.frz o (.dK kvs))/\AVk H kvs ds:=by
 generalize e:za3 ds=d at h;cases h with
 |dk b c=>cases e;exact⟨_,_,_,rfl,b,c⟩
 |_=>cases e
section
variable {X:Cx}{pins:List (Addr×Obj)}{σ:St}{H:Hp}{s:Shared}{l:Addr}{kvs:List (Key×V)}
end
section
variable {X:Cx}{e:Expr}{sts:List Stmt}
end
section
variable {X:Cx}{α:Ev}{e a b:Expr}{pos p:Pos}{Q:PyData->Prop}
end
section
variable {X:Cx}{α:Ev}{e a b:Expr}{pos p:Pos}{Q:PyData->Prop}
end
section
variable {X:Cx}{tg:Expr}
end
section
variable {X:Cx}{α:Ev}{e a b tg:Expr}{pos p:Pos}{Q:List PyData->Prop}
end
mutual
def ltD :PyData->PyData->Option Bool
 |.int a,.int b=>some (decide (a<b))
 |.str a,.str b=>some (decide (a.cps.toList<b.cps.toList))
 |.tuple xs,.tuple ys=>zz5 xs ys
 |_,_=>none
def zz5 :List PyData->List PyData->Option Bool
 |[],[]=>some false
 |[],_::_=>some true
 |_::_,[]=>some false
 |x::xs,y::ys=>if PyData.eqv x y=true then zz5 xs ys else ltD x y
end
section
open PySem.SeqAt
open PySem.AutoSeq1 (wpAny_loadPart')
open PySem.MeetsSeq PySem.MeetsSeq2 PySem.MeetsSeq3
end
section
variable {prog:Program}{w:World}{A:Around}{R:Result->Shared->Prop}{it:Addr}{fp wr:List Addr}{m:Nat}{P:Nat->Value->Prop}{St:Nat->Heap->Prop}
end
section
variable {prog:Program}{w:World}{A:Around}{E:Value->Shared->Prop}{s:Shared}
end
section
variable {X:Cx}{α:Ev}{e:Expr}{pos p:Pos}{Q:PyData->Prop}
theorem AVs.intsV {H:Hp}{xs:List V}{zs:List Int}(h:AVs H xs (zs.map .int)):xs=zs.map V.int:=by
 induction zs generalizing xs with
 |nil=>cases h;rfl
 |cons n ns b=>cases h with
  |cons h a=>rw[zM9,b a,h.int_inv]
end
section
variable {prog:Program}{w:World}{A:Around}{E:Value->Shared->Prop}{s:Shared}{it l:Addr}{items:Array Value}
end
section
variable {X:Cx}{α:Ev}{a e c:Expr}{p p0 pos pos2:Pos}{Q:List PyData->Prop}
end
def oZ (Q:PyData->Prop):List PyData->Prop
 |[]=>True
 |d::r=>Q d/\oZ Q r
theorem oZ.mem {Q:PyData->Prop}:∀{ds:List PyData},oZ Q ds->∀d∈ds,Q d
 |[],_,d,h=>by cases h
 |x::r,h,d,hd=>by
  rcases zJ1.mp hd with rfl|hd
  ·exact h.1
  ·exact oZ.mem h.2 d hd
theorem bP {x:PyData}{ds:List PyData}{v:Int}{Q:PyData->Prop}(a:wu x=some ds)(h0:0<=v)(b:v<ds.length)(h:oZ Q ds):∃ds i d,wu x=some ds/\PyData.int v=.int i/\atI ds i=some d/\Q d:=by
 obtain⟨d,hd,e⟩:=zh2 h0 b;exact⟨ds,v,d,a,rfl,e,h.mem d hd⟩
theorem eL {x:PyData}{ds:List PyData}{v:Int}{Q:PyData->Prop}(P:PyData->Prop)(a:wu x=some ds)(h0:0<=v)(b:v<ds.length)(h:oZ P ds)(k:∀d,P d->Q d):∃ds i d,wu x=some ds/\PyData.int v=.int i/\atI ds i=some d/\Q d:=by
 obtain⟨d,hd,e⟩:=zh2 h0 b;exact⟨ds,v,d,a,rfl,e,k d (h.mem d hd)⟩
theorem fN {k:Bool}{p q:Prop}(a:k=true->p)(b:k=false->q):if k=true then p else q:=by
 cases k with
 |true=>exact a rfl
 |false=>exact b rfl
section
variable {X:Cx}{α:Ev}{e a b:Expr}{pos p:Pos}{E:yo}{rest:List Stmt}
end
def zx2 :R2:=λx y H R=>rEq x y H R\/zy2 x y H R
def zw1 :R2:=λx y H R=>rNe x y H R\/zv2 x y H R
theorem eu {X:Cx}(c:X.A.units+64<cLine):OpR X (compareOp .Eq) zx2:=λpins s σ H x y v u Q I a b h=>h.elim (λh=>dh _ _ _ _ _ _ _ _ _ I a b h) λh=>zo7 c _ _ _ _ _ _ _ _ _ I a b h
theorem zt6 {X:Cx}(c:X.A.units+64<cLine):OpR X (compareOp .NotEq) zw1:=λpins s σ H x y v u Q I a b h=>h.elim (λh=>zA6 _ _ _ _ _ _ _ _ _ I a b h) λh=>zs6 c _ _ _ _ _ _ _ _ _ I a b h
theorem aS {i j:Str}:Cmp rNe (.str i) (.str j) (!decide (i=j)):=λp H c d R a b h=>by
 cases a.str_inv;cases b.str_inv;refine⟨rfl,?_⟩;rw[show decide (V.str i=V.str j)=decide (i=j) by simp];exact h
def pA (x y:PyData)(Q:Bool->Prop):Prop:=∃k,Cmp zx2 x y k/\Cmp zw1 x y (!k)/\Q k
theorem ai {i j:Int}{Q:Bool->Prop}(h:Q (decide (i=j))):pA (.int i) (.int j) Q:=⟨_,λp H a d R b c z=>.inl (lG p H a d R b c z),λp H a d R b c z=>.inl (bB p H a d R b c z),h⟩
theorem aJ {i j:Str}{Q:Bool->Prop}(h:Q (decide (i=j))):pA (.str i) (.str j) Q:=⟨_,λp H a d R b c z=>.inl (kh p H a d R b c z),λp H a d R b c z=>.inl (aS p H a d R b c z),h⟩
theorem eqk {x y:PyData}{Q:Bool->Prop}(s1:SeqAt.shaped x=true)(s2:SeqAt.shaped y=true)(c:x.hasDict=false)(d:y.hasDict=false)(h:Q (PyData.eqv x y)):pA x y Q:=
 ⟨_,λp H e f R a b z=>.inr ⟨x,y,(a.dv c).same xo,(b.dv d).same xo,s1,s2,z⟩,λp H e f R a b z=>.inr ⟨x,y,(a.dv c).same xo,(b.dv d).same xo,s1,s2,z⟩,h⟩
section
variable {X:Cx}{α:Ev}{a b:Expr}{pos:Pos}{Q:PyData->Prop}{T:Bool->Prop}
theorem zm9 (d:X.A.units+64<cLine)(h:EvD X α a λx=>EvD X α b λy=>pA x y λk=>Q (.bool k)):EvD X α (.Compare a [.Eq] [b] pos) Q:=fg (eu d) (yD _) (h.imp λx h=>h.imp λy c=>by obtain⟨k,e,_,q⟩:=c;exact⟨k,e,q⟩)
theorem zp6 (d:X.A.units+64<cLine)(h:EvD X α a λx=>EvD X α b λy=>pA x y T):EvT X α (.Compare a [.Eq] [b] pos) T:=we (eu d) (yD _) (h.imp λx h=>h.imp λy c=>by obtain⟨k,e,_,q⟩:=c;exact⟨k,e,q⟩)
theorem zk6 (d:X.A.units+64<cLine)(h:EvD X α a λx=>EvD X α b λy=>pA x y λk=>T (!k)):EvT X α (.Compare a [.NotEq] [b] pos) T:=we (zt6 d) (yD _) (h.imp λx h=>h.imp λy c=>by obtain⟨k,_,e,q⟩:=c;exact⟨!k,e,q⟩)
theorem zg2 {k:Bool}{p q:Prop}(e:k=true)(h:p):if k=true then p else q:=by rw[if_pos e];exact h
theorem zD8 {k:Bool}{p q:Prop}(e:k=false)(h:q):if k=true then p else q:=by rw[if_neg (by rw[e];decide)];exact h
variable {E:yo}{s t:List Stmt}
theorem qI {k:Bool}(e:k=true)(h:SvS X α s E):SvS X α (if k=true then s else t) E:=by rw[if_pos e];exact h
theorem xu {k:Bool}(e:k=false)(h:SvS X α t E):SvS X α (if k=true then s else t) E:=by rw[if_neg (by rw[e];decide)];exact h
end
section
variable {X:Cx}{α:Ev}{a b:Expr}{pos:Pos}{Q:PyData->Prop}{T:Bool->Prop}
def zv3 :R2:=λx y H Q=>∃a v,x=.ref a/\fO H a y (some v)/\Q v H
theorem aW (d:X.A.units+1<cLine):IxR X zv3:=λvalue slice pins s σ H x y v u Q I j e h i=>by
 obtain⟨a,z,rfl,g,q⟩:=h;cases j;exact tail_any (nq I g) PySem.F.slot_dict_getitem.lookup (jF d I g e λk s' f c=>⟨z,H,f,c,q⟩) i
def dR (x y:PyData)(Q:PyData->Prop):Prop:=(∃ds i d,wu x=some ds/\y=.int i/\atI ds i=some d/\Q d)\/∃ds k d,x=za3 ds/\y=oP k/\ak ds k=some d/\Q d
theorem ixk {x y:PyData}{ds:List PyData}{i:Int}{d:PyData}(c:wu x=some ds)(e:y=.int i)(f:atI ds i=some d)(h:Q d):dR x y Q:=.inl ⟨ds,i,d,c,e,f,h⟩
theorem pe {x:PyData}{ds:List PyData}{v:Int}(d:wu x=some ds)(h0:0<=v)(c:v<ds.length)(h:oZ Q ds):dR x (.int v) Q:=.inl (bP d h0 c h)
theorem qp {x:PyData}{ds:List PyData}{v:Int}(P:PyData->Prop)(c:wu x=some ds)(h0:0<=v)(e:v<ds.length)(h:oZ P ds)(k:∀d,P d->Q d):dR x (.int v) Q:=.inl (eL P c h0 e h k)
theorem zl8 (r:X.A.units+1<cLine)(s:qx b)(h:EvD X α a λx=>EvD X α b λy=>dR x y Q):EvD X α (.Subscript a b pos) Q:=by
 refine tW (f:=tOp (λx y H Q=>rIx X.K x y H Q\/zv3 x y H Q)) (vc (zn9.or (aW r)) zi zi s) (λ_ _ _=>Iff.rfl) (h.imp λx h=>h.imp λy h=>?_);intro F σ H w z R m l p k;rcases h with⟨ds,i,d,e1,rfl,e,hq⟩|⟨ds,t,d,rfl,rfl,c,hq⟩
 ·cases p.int_inv;cases x with
  |list j=>
   cases e1;obtain⟨a,xs,rfl,n,g⟩:=l.lst_inv;obtain⟨v,c,av⟩:=g.atI e;exact .inl (.inl ⟨a,xs,i,v,rfl,rfl,SqL.of (zj n).2,c,k d v H hq m.tp Kz.refl av⟩)
  |tuple j=>
   cases e1;obtain⟨a,xs,rfl,n,g⟩:=l.tup_inv;obtain⟨v,c,av⟩:=g.atI e;exact .inl (.inr (.inl ⟨a,xs,i,v,rfl,rfl,SqT.of (zj n).2,c,k d v H hq m.tp Kz.refl av⟩))
  |_=>cases e1
 ·obtain⟨a,o,kvs,rfl,g1,g2⟩:=l.dk_inv;obtain⟨v,u,q⟩:=g2.get c;cases aT p;exact .inr ⟨a,v,rfl,.inl ⟨kvs,t,.inr ⟨o,(zj g1).2⟩,rfl,u.symm⟩,k d v H hq m.tp Kz.refl q⟩
def zt7 (K:PySem.W.Frag)(neg:Bool):R2:=λx y H Q=>rIn K neg x y H Q\/∃a o,y=.ref a/\fO H a x o/\Q (.bl (if neg then !o.isSome else o.isSome)) H
theorem zl4 (e:X.A.units+1<cLine):OpR X (compareOp .In) (zt7 X.K false):=λpins s σ H x y v u Q I d c h=>by
 rcases h with h|⟨a,o,rfl,g,q⟩
 ·exact jT pins s σ H x y v u Q I d c h
 ·cases c;exact zG5 e I g d λs' f=>⟨.bl o.isSome,H,f,rfl,q⟩
def zp3 (X:Cx)(x y:PyData)(Q:Bool->Prop):Prop:=∃k,Cmp (zt7 X.K false) x y k/\Cmp (zt7 X.K true) x y (!k)/\Q k
theorem zF2 {x:PyData}{ds:List PyData}(f1:rO x=true)(f2:ds.all rO=true)(q:T (inD x ds)):zp3 X x (.tuple ds) T:=
 ⟨_,λp H c f R d e h=>.inl (kP (X:=X) (neg:=false) f1 f2 p H c f R d e h),λp H c f R d e h=>.inl (kP (X:=X) (neg:=true) f1 f2 p H c f R d e h),q⟩
theorem zt1 (d:X.A.units+1<cLine)(h:EvD X α a λx=>EvD X α b λy=>zp3 X x y T)(hm:behindInMarks .In b=false:=by rfl):EvT X α (.Compare a [.In] [b] pos) T:=
 we (zl4 d) hm (h.imp λx h=>h.imp λy c=>by obtain⟨k,e,_,q⟩:=c;exact⟨k,e,q⟩)
end
theorem zI.one {k:Nat}{A:Around}(h:zI k A):A.units+1<cLine:=by have:=h.units;exact zE5 this
section
variable {X:Cx}{α:Ev}{E:yo}{rest body:List Stmt}{e c tg iter:Expr}{pos p:Pos}
theorem yh (pat:Pat)(h:EvI X α tg iter λds=>xW X pat body rest E ds α)(f:X.N.Nodup:=by assumption)(d:PassesOwn (model X.prog X.w) X.A X.env X.xe:=by exact zZ7)(b:X.calm=true:=by rfl)
  (hg:PG X tg (qA X.K pat):=by first|exact zM (by assumption) rfl (Or.inl rfl)|exact zM (by assumption) rfl (Or.inr rfl)|exact vG rfl rfl (by repeat (first|exact tN|refine wm (by first|exact zM (by assumption) rfl (Or.inl rfl)|exact zM (by assumption) rfl (Or.inr rfl)) ?_)))
  (a:∀x,foldedSetIterable iter X.env x=pure x:=by intro _;rfl):SvS X α (.For tg iter body [] pos::rest) E:=qX d b hg h a
def freeOk (xs:Scope)(y:Str×NameKind):Bool:=match y.2 with
 |.free=>match xs.names.lookup y.1 with
  |some .cell=>true
  |some .free=>true
  |_=>false
 |_=>true
theorem nk {xs scope:Scope}(h:scope.names.all (freeOk xs)=true):∀y∈scope.names,y.2=.free->xs.names.lookup y.1=some .cell\/xs.names.lookup y.1=some .free:=λy hy e=>by
 have:=zY3.mp h y hy;unfold freeOk at this;rw[e]at this;cases z:xs.names.lookup y.1 with
 |none=>rw[z]at this;cases this
 |some k=>
  rw[z]at this;cases k<;>first|exact .inl rfl|exact .inr rfl|cases this
theorem me (N:List Str)(imp:List (Option Nat))(pat:Pat){scope:Scope}{elt:Expr}{ifs:List Expr}{Q:List PyData->Prop}(h:EvI X α tg iter λds=>ds.length<=1000/\yY (λC s2 d fp=>X.comp N scope C s2 d fp) pat ifs elt (yx imp α) ds [] Q)
  (nd:N.Nodup:=by decide +kernel) (k:scope.kind=.function:=by rfl) (l:∀y∈scope.names,y.2≠.cell:=by decide +kernel) (m:∀y∈scope.names,y.2=.local->scope.names.lookup y.1=some .local:=by decide +kernel) (g:scope.names.all (freeOk X.env.scope)=true:=by rfl) (i:imp.length=N.length:=by rfl)
  (o:((imp.zip N).all λp=>match p.1 with|none=>true|some j=>X.N[j]? == some p.2&&scope.names.lookup p.2 == some .free)=true:=by rfl) (a:pat.free (yx imp α)=true:=by rfl)
  (hg:∀C s2 d fp,N.Nodup->PG (X.comp N scope C s2 d fp) tg (qA X.K pat):=by intro _ _ _ _ b;first|exact zM b rfl (Or.inl rfl)|exact vG rfl rfl (by repeat (first|exact tN|refine wm (zM b rfl (Or.inl rfl)) ?_)))
  (f:X.calm=true:=by rfl) (n:∀x,foldedSetIterable iter X.env x=pure x:=by intro _;rfl):EvL X α (.ListComp elt [⟨tg,iter,ifs,0⟩] scope pos) Q:=ji f ⟨k,nd,l,m,nk g,i,o⟩ a (λC s2 d fp=>hg C s2 d fp nd) h n
theorem gN (i:Nat)(N:List Str)(imp:List (Option Nat))(pat:Pat){x:Str}{pos' a:Pos}{scope:Scope}{elt:Expr}{ifs:List Expr}(h:EvI X α tg iter λds=>ds.length<=1000/\yY (λC s2 f fp=>X.comp N scope C s2 f fp) pat ifs elt (yx imp α) ds [] λds=>SvS X (α.set i (some (.own ds))) rest E)
  (l:X.N.Nodup:=by assumption)
  (nd:N.Nodup:=by decide +kernel) (s:scope.kind=.function:=by rfl) (k:∀y∈scope.names,y.2≠.cell:=by decide +kernel) (t:∀y∈scope.names,y.2=.local->scope.names.lookup y.1=some .local:=by decide +kernel) (u:scope.names.all (freeOk X.env.scope)=true:=by rfl) (r:imp.length=N.length:=by rfl)
  (n:((imp.zip N).all λp=>match p.1 with|none=>true|some j=>X.N[j]? == some p.2&&scope.names.lookup p.2 == some .free)=true:=by rfl) (b:pat.free (yx imp α)=true:=by rfl)
  (hg:∀C s2 f fp,N.Nodup->PG (X.comp N scope C s2 f fp) tg (qA X.K pat):=by intro _ _ _ _ d;first|exact zM d rfl (Or.inl rfl)|exact vG rfl rfl (by repeat (first|exact tN|refine wm (zM d rfl (Or.inl rfl)) ?_)))
  (o:X.calm=true:=by rfl)
  (hi:X.N[i]?=some x:=by rfl) (q:Loc X.env.scope x:=by first|exact Or.inl rfl|exact Or.inr rfl) (g:swapsWith (.ListComp elt [⟨tg,iter,ifs,0⟩] scope a) (some (.Name x pos')) pos.line X.env=pure true:=by rfl)
  (hf:X.fn x=true\/X.env.scope.names.lookup x=some .local:=by first|exact .inl rfl|exact .inr rfl|assumption) (m:∀x,foldedSetIterable iter X.env x=pure x:=by intro _;rfl):
  SvS X α (.Assign [.Name x pos'] (.ListComp elt [⟨tg,iter,ifs,0⟩] scope a) pos::rest) E:=eN i l o ⟨s,nd,k,t,nk u,r,n⟩ b (λC s2 f fp=>hg C s2 f fp nd) h hi q g hf m
end
section
variable {Y:Addr->Shared->Hp->List Addr->Cx}{pat:Pat}{ifs:List Expr}{elt:Expr}{α0:Ev}{ι:Type}{g f:ι->PyData}{l:List ι}{acc:List PyData}{Q:List PyData->Prop}
theorem pX (p:ι->Bool)(f:ι->PyData)(h:∀x∈l,∃a,pat.bind (g x) α0=some a/\(∀C s2 b fp (Q:Bool->Prop),Q (p x)->jJ (Y C s2 b fp) a ifs Q)/\(p x=true->∀C s2 b fp (Q:PyData->Prop),Q (f x)->EvD (Y C s2 b fp) a elt Q))
  (hd:Q (acc++(l.filter p).map f)):yY Y pat ifs elt α0 (l.map g) acc Q:=by
 induction l generalizing acc with
 |nil=>
  show Q acc;simpa using hd
 |cons d ds k=>
  obtain⟨a,e,i,j⟩:=h d zJ6;refine⟨a,e,λC s2 b fp=>i C s2 b fp _ ?_⟩;have c:=λacc=>k (acc:=acc) λd hd=>h d (zJ2 _ hd);cases hp:p d with
  |true=>
   rw[if_pos rfl];refine λC s2 b fp=>j hp C s2 b fp _ (c _ ?_);simpa[zW4,hp]using hd
  |false=>
   rw[if_neg (by decide)];refine c _ ?_;simpa[zW4,hp]using hd
theorem jt (f:ι->PyData)(b:∀x∈l,∃a,pat.bind (g x) α0=some a/\∀C s2 d fp (Q:PyData->Prop),Q (f x)->EvD (Y C s2 d fp) a elt Q)(hd:Q (acc++l.map f)):yY Y pat [] elt α0 (l.map g) acc Q:=
 pX (λ_=>true) f (λx c=>by
  obtain⟨a,e,h⟩:=b x c;exact⟨a,e,λ_ _ _ _ _ k=>uC k,λ_=>h⟩) (by rw[List.filter_eq_self.mpr λ_ _=>rfl];exact hd)
end
section
variable {co:Co}{N:Nat}
end
section
variable {co:Co}{N:Nat}
end
section
variable {X:Cx}{α:Ev}{a b e:Expr}{pos p:Pos}{Q:PyData->Prop}
end
section
variable {X:Cx}{α:Ev}{a b c e:Expr}{pos p:Pos}{Q:PyData->Prop}{T:Bool->Prop}
theorem cc {op d:CmpOp}{g g':Int->Int->Bool}(t:OpR X (compareOp op) (rI0 λi j=>.bl (g i j)))(f:OpR X (compareOp d) (rI0 λi j=>.bl (g' i j)))(hm:lastMarks [op,d] [b,c]=false)
  (h:EvD X α a λx=>EvD X α b λy=>∃i j,x=.int i/\y=.int j/\(if g i j=true then EvD X α c λz=>∃k,z=.int k/\T (g' j k)else T false)):EvT X α (.Compare a [op,d] [b,c] pos) T:=λF σ H R m k=>by
 refine⟨_,du t f zi zi zi hm,?_⟩;refine h F σ H _ m λx I H1 w t1 l A=>?_;have m1:=m.kz l t1;refine w F σ H1 _ m1 λy K q D r n u=>?_;obtain⟨i,j,e1,B,hq⟩:=D;subst e1 B;cases A.int_inv;cases u.int_inv;have m2:=m1.kz n r;refine⟨i,j,rfl,rfl,_,rfl,?_⟩;cases hg:g i j with
 |true=>
  rw[hg]at hq;refine rq ?_;refine(by simpa using hq:EvD X α c _) F σ q _ m2 λz J C s t3 G v=>?_;obtain⟨E,rfl,o⟩:=s;cases v.int_inv;exact⟨j,E,rfl,rfl,_,rfl,k _ C o t3 ((l.trans n).trans G)⟩
 |false=>
  rw[hg]at hq;exact rA ⟨_,rfl,k _ q (by simpa using hq) r (l.trans n)⟩
theorem hV (h:EvD X α a λx=>EvD X α b λy=>∃i j,x=.int i/\y=.int j/\(if decide (i<=j)=true then EvD X α c λz=>∃k,z=.int k/\T (decide (j<=k))else T false))(hm:lastMarks [.LtE,.LtE] [b,c]=false:=by rfl):EvT X α (.Compare a [.LtE,.LtE] [b,c] pos) T:=cc om om hm h
theorem fc (h:EvD X α a λx=>EvD X α b λy=>∃i j,x=.int i/\y=.int j/\(if decide (i<=j)=true then EvD X α c λz=>∃k,z=.int k/\Q (.bool (decide (j<=k)))else Q (.bool false)))(hm:lastMarks [.LtE,.LtE] [b,c]=false:=by rfl):EvD X α (.Compare a [.LtE,.LtE] [b,c] pos) Q:=cF om om hm h
end
section
variable {X:Cx}{α:Ev}{a b c e:Expr}{pos p p2 pos2:Pos}{Q:PyData->Prop}{T:Bool->Prop}
theorem qr {us:List Value}{ns:List Int}(h:IntsAre us ns):Vals (ns.map V.int) us:=by
 induction h with
 |nil=>exact .nil
 |cons n t _ d=>exact .cons ⟨t,rfl⟩ d
end
section
variable {X:Cx}{α:Ev}{a b c d e:Expr}{pos p:Pos}{ta tb tc td:TE}{T:Bool->Prop}
end
theorem zE7 (ns zs:List Int):∃ms,tj ns zs ms:=by
 refine⟨ns.mergeSort λm k=>!lx (keyOf zs k) (keyOf zs m),List.mergeSort_perm ..,?_⟩;have h:=List.pairwise_mergeSort (le:=λm k=>!lx (keyOf zs k) (keyOf zs m)) (λa b c d e=>?_) (λa b=>?_) ns
 ·exact h.imp λ{a b} h=>by simpa using h
 ·simp only[Bool.not_eq_true']at d e ⊢;unfold lx at *;simp only[zS1]at *
  lia
 ·unfold lx;simp only[zX2,Bool.not_eq_true',zS1]
  lia
theorem eG {ns zs ms ks:List Int}(h:tj ns zs ms)(h':tj ns zs ks):ms=ks:=by
 refine List.Perm.eq_of_pairwise (le:=λm k=>lx (keyOf zs k) (keyOf zs m)=false) (λa b _ _ c d=>?_) h.2 h'.2 (h.1.trans h'.1.symm);unfold lx keyOf at c d;simp only[zS1]at c d
 lia
theorem bD {zs:List Int}{many free:Nat}{bs cs:List Bool}(h:0<many)(m:tm zs many free zs.length bs)(c:tm zs many free zs.length cs):bs=cs:=by
 have e:∀j,bs.getD j false=cs.getD j false:=λj=>by
  by_cases f:zs.length / many*many<=j
  ·rw[m.2.1 j f,c.2.1 j f]
  ·have hk:j / many<zs.length / many:=by
    have:=Nat.div_lt_iff_lt_mul (k:=many) (x:=j) (y:=zs.length / many) h;exact this.mpr (Nat.lt_of_not_le f)
   obtain⟨ms,s,i⟩:=m.2.2 _ hk;obtain⟨ks,s',g⟩:=c.2.2 _ hk;cases eG s s';have d:=zX3 j many;have l:=Nat.mod_lt j h;have n:j / many*many=many*(j / many):=z30 _ _;obtain⟨q,hq,eq⟩:=zo9 s (m:=(j:Int)) (by lia) (by lia);have a:=i q hq;have b:=g q hq;rw[eq,zQ7]at a b;rw[a,b]
 refine List.ext_getElem (by rw[m.1,c.1]) λj a b=>?_;have:=e j;rw[zJ7,zJ7,zI7 a,zI7 b]at this;exact this
theorem gq {d:PyData}(hd:cj d){zs:List Int}{bs cs:List Bool}(h:xY d zs bs)(h':xY d zs cs):bs=cs:=by
 rcases hd with rfl|⟨many,free,rfl,f0,a,_⟩
 ·rcases h with⟨_,rfl⟩|⟨_,_,h,_⟩
  ·rcases h' with⟨_,rfl⟩|⟨_,_,h,_⟩
   ·rfl
   ·cases h
  ·cases h
 ·exact bD (zK9 (zJ8 _) a) (oE h) (oE h')
section
variable {X:Cx}{α:Ev}{a b c d e:Expr}{pos p:Pos}{T:Bool->Prop}
end
abbrev pS (X:Cx)(P:Program)(w:World)(K:PySem.W.Frag)(mg:Str->Option Value)(base:Heap):Prop:=X.prog=P/\X.w=w/\X.K=K/\X.mg=mg/\X.base=base
section
variable {X:Cx}{α:Ev}{e o:Expr}{es:List Expr}{pos p apos:Pos}{Q:PyData->Prop}{k:Nat}{φ:List A->(A->Prop)->Prop}{x m:Str}{C:Addr}{pl:Sem Bool}{P:Program}{w:World}{K:PySem.W.Frag}{mg:Str->Option Value}{base:Heap}
theorem bw (D:Cal P w K mg base x k φ)(c:pS X P w K mg base)(hr:zI k X.A)(hg:Gl X x)(h:EvA X α (e::es) λas=>φ as λa=>Q a.d)
  (b:(x == ("__debug__":Str))=false:=by decide) (he:starEach (e::es) X.env=(false,eval e X.env)::starEach es X.env:=by rfl) (hpl:(backTo pos (starEach es X.env)).any (·.1)=false:=by rfl):EvD X α (.Call (.Name x p) (e::es) [] pos) Q:=by
 obtain⟨rfl,rfl,rfl,rfl,rfl⟩:=c;exact mQ D hr hg h b he hpl
theorem aR {Q:List PyData->Prop}(D:Cal P w K mg base x k φ)(c:pS X P w K mg base)(hr:zI k X.A)(hg:Gl X x)(h:EvA X α (e::es) λas=>φ as λa=>∃ds,a=.own ds/\Q ds)
  (b:(x == ("__debug__":Str))=false:=by decide) (he:starEach (e::es) X.env=(false,eval e X.env)::starEach es X.env:=by rfl) (hpl:(backTo pos (starEach es X.env)).any (·.1)=false:=by rfl):EvL X α (.Call (.Name x p) (e::es) [] pos) Q:=by
 obtain⟨rfl,rfl,rfl,rfl,rfl⟩:=c;exact xA D hr hg h b he hpl
theorem cW (D:vk P w K mg base x k [] φ)(c:pS X P w K mg base)(hr:zI (k+1) X.A)(hg:Gl X x)(h:EvA X α (e::es) λas=>φ as λa=>Q a.d)
  (b:(x == ("__debug__":Str))=false:=by decide) (he:starEach (e::es) X.env=(false,eval e X.env)::starEach es X.env:=by rfl) (hpl:(backTo pos (starEach es X.env)).any (·.1)=false:=by rfl):EvN X α (.Call (.Name x p) (e::es) [] pos) Q:=by
 obtain⟨rfl,rfl,rfl,rfl,rfl⟩:=c;exact za0 D hr hg h b he hpl
theorem dC (D:yQ P w K mg base C m k φ)(c:pS X P w K mg base)(hr:zI k X.A)(h:EvD X α o λx=>∃fs,x=wy C fs/\sj fs m=none/\EvA X α (e::es) λas=>φ (.dat (wy C fs)::as) λa=>Q a.d)
  (b:starEach (e::es) X.env=(false,eval e X.env)::starEach es X.env:=by rfl) (hpl:(backTo pos (starEach es X.env)).any (·.1)=false:=by rfl)
  (g:eval (.Call (.Attribute o m apos) (e::es) [] pos) X.env=(do
   let ov <-eval o X.env
   standAt apos.atName
   let(f,first) <-holding [ov] (getMethod ov m pl)
   callWith pos f first (backTo pos (starEach (e::es) X.env)) (backToKw pos (keywordEach [] X.env))):=by rfl):EvD X α (.Call (.Attribute o m apos) (e::es) [] pos) Q:=by
 obtain⟨rfl,rfl,rfl,rfl,rfl⟩:=c;exact wH D hr h b hpl g
theorem jM (D:yQ P w K mg base C m k φ)(b:pS X P w K mg base)(hr:zI k X.A)(h:EvD X α o λx=>∃fs,x=wy C fs/\sj fs m=none/\φ [.dat (wy C fs)] λa=>Q a.d)
  (c:eval (.Call (.Attribute o m apos) [] [] pos) X.env=(do
   let ov <-eval o X.env
   standAt apos.atName
   let(f,first) <-holding [ov] (getMethod ov m pl)
   callWith pos f first (backTo pos (starEach [] X.env)) (backToKw pos (keywordEach [] X.env))):=by rfl):EvD X α (.Call (.Attribute o m apos) [] [] pos) Q:=by
 obtain⟨rfl,rfl,rfl,rfl,rfl⟩:=b;exact sL D hr h c
end
section
variable {X:Cx}{α:Ev}{pos:Pos}{Q:PyData->Prop}
end
section
variable {X:Cx}{α:Ev}{e ix:Expr}{pos:Pos}{rest:List Stmt}{E:yo}
end
section
variable {X:Cx}{tg:Expr}
variable {α:Ev}{a b c:Expr}{p pos:Pos}
end
section
variable {prog:Program}{w:World}{K:Type}[DecidableEq K](knd:KeyKind prog w K)
variable {knd}
end
section
variable {X:Cx}
end
section
variable {X:Cx}{α:Ev}{e a b:Expr}{p pos:Pos}{Q:PyData->Prop}
def zH6 (neg:Bool):R2:=λx y H Q=>∃d ds,DV H x d/\DV H y (.list ds)/\d.canLay0=true/\PyData.canLayAll0 ds=true/\d.depth<=60/\Q (.bl (if neg then !(ds.any λy=>PyData.eqv y d)else ds.any λy=>PyData.eqv y d)) H
theorem jE (c:X.A.units+64<cLine):OpR X (compareOp .NotIn) (zH6 true):=by
 intro pins s σ H x y v u Q I l g h;obtain⟨d,ds,hd,he,i,j,dp,q⟩:=h;obtain⟨as,k⟩:=hd.reads I l;obtain⟨bs,f⟩:=he.reads I g;exact SeqAt.notIn_list_reads f k j i (by have:=Nat.min_le_right (PyData.depthAll ds) d.depth;exact zH0 c dp) ⟨.bl _,H,I,rfl,q⟩
end
section
variable {M:Model}{A:Around}{E:Value->Shared->Prop}{s:Shared}
end
section
variable {P:Program}{w:World}{H H0:Hp}{h h' h0:Heap}{fs fs' ts:List Addr}{e:Addr}
end
section
variable {X:Cx}{pins:List (Addr×Obj)}{σ:St}{H H':Hp}{s s':Shared}{a:Addr}
end
section
variable {X:Cx}{E':Value->Shared->Prop}
end
section
variable {P:Program}{w:World}{K:PySem.W.Frag}{mg:Str->Option Value}{base:Heap}
end
section
variable {prog:Program}{w:World}{A:Around}{E:Value->Shared->Prop}{h:Heap}{g:Array GenState}{d:Drawn}{t:Nat}{os:OsState}
variable {nm q:Str}{C N:Addr}{bs bm bmB:List Value}{hdct:Bool}{sn:List Str}{sub:List Value}{ab:Bool}{col:Option Bool}{dd:Option Addr}{k0 k1 k2 k3 k5:Option Value}{B Bn newId nid initId inN:String}{bmN:List Value}
end
open Builtin Builtin.ObjectAttr
section
variable {prog:Program}{w:World}{A:Around}{E:Value->Shared->Prop}{h:Heap}{g:Array GenState}{d:Drawn}{t:Nat}{os:OsState}{K:Frag}{C S e t0:Addr}{dx:Option Addr}{init:Option Value}
end
section
variable {prog:Program}{w:World}{A:Around}{E:Value->Shared->Prop}{h:Heap}{g:Array GenState}{d:Drawn}{t:Nat}{os:OsState}{K:Frag}{C S e t0:Addr}{init:Option Value}
end
section
variable {X:Cx}{pins:List (Addr×Obj)}{σ:St}{H:Hp}{s:Shared}{a C:Addr}{d:Option Addr}{pos:Pos}
end
section
variable {prog:Program}{w:World}{A:Around}{E:Value->Shared->Prop}{h:Heap}{g:Array GenState}{d:Drawn}{t:Nat}{os:OsState}
variable {nm q:Str}{C N:Addr}{bs bm bmB:List Value}{hdct:Bool}{sn:List Str}{sub:List Value}{ab:Bool}{col:Option Bool}{dd:Option Addr}{k0 k1 k2 k3 k5:Option Value}{B Bn newId nid initId inN:String}{bmN:List Value}
end
section
variable {X:Cx}{pins:List (Addr×Obj)}{σ:St}{H:Hp}{s:Shared}{k:Nat}{f C S:Addr}{fd:FuncData}{ps:List Str}{sp:Sp}{x:Str}{p pos:Pos}{e:Expr}{es:List Expr}{t:TA}
end
section
variable {X:Cx}{pins:List (Addr×Obj)}{σ:St}{H:Hp}{s:Shared}{a:Addr}{D:Ends}{f:Flow}
end
section
variable {X:Cx}{body suite:List Stmt}{b0:Stmt}{x n:Str}{np hpos pos:Pos}{B:Addr}
end
section
variable {G:Hp}{v:V}{C:Addr}{ds:List (PyData×PyData)}
end
section
variable {F:Fr}{α αh:Ev}{σ:St}{H:Hp}
end
section
variable {F:Fr}{α αh:Ev}{σ:St}{H:Hp}
end
section
variable {P:Program}{w:World}{K:PySem.W.Frag}{mg:Str->Option Value}{base:Heap}
end
section
variable {X:Cx}{α αh:Ev}{r:Fr}{q q0:PyData->Prop}{j k:Nat}{x fl:Str}{C:Addr}{e:Expr}{es:List Expr}{p pos pos':Pos}{rest:List Stmt}{E:yo}
variable {φ:List A->(A->Prop)->(PyData->Prop)->Prop}{Q:PyData->Prop}
end
section
variable {P:Program}{w:World}{K:PySem.W.Frag}{mg:Str->Option Value}{base:Heap}
end
section
variable {X:Cx}{α αh:Ev}{q:PyData->Prop}{i j:Nat}{x n:Str}{B:Addr}{body suite rest:List Stmt}{b0:Stmt}{np hpos pos:Pos}{E:yo}
end
section
variable {X:Cx}{α:Ev}{p p1 pos:Pos}{a:Expr}{Q:PyData->Prop}{C S:Addr}{init:Option Value}
end
section
variable {X:Cx}{α:Ev}{pos:Pos}{o:Expr}{f:Str}{Q:PyData->Prop}{C S:Addr}{init:Option Value}
end
section
variable {P:Program}{w:World}{K:PySem.W.Frag}{mg:Str->Option Value}{base:Heap}
end
section
variable {X:Cx}{α αh:Ev}{r:Fr}{q q0:PyData->Prop}{j k:Nat}{x fl:Str}{C:Addr}{e:Expr}{es:List Expr}{p pos pos':Pos}{rest:List Stmt}{E:yo}
end
section
variable {P:Program}{w:World}{K:PySem.W.Frag}{mg:Str->Option Value}{base:Heap}
end
section
variable {P:Program}{w:World}{K:PySem.W.Frag}{mg:Str->Option Value}{base:Heap}
end
section
variable {X:Cx}{α αh:Ev}{r:Fr}{q q0:PyData->Prop}{j k:Nat}{x fl:Str}{C:Addr}{e:Expr}{es:List Expr}{p pos pos':Pos}{rest:List Stmt}{E:yo}{Q:PyData->Prop}{φ:List A->(PyData->Prop)->Prop}
end
def zx6 :Option A->Option A
 |some .tape=>none
 |some (.exc _ _)=>none
 |a=>a
def yP (α:Ev):Ev:=α.map zx6
def gO :A->Prop
 |.tape=>False
 |.exc _ _=>False
 |_=>True
theorem xk {α:Ev}{i:Nat}{a:A}(h:(yP α)[i]?=some (some a)):α[i]?=some (some a)/\gO a:=by
 unfold yP at h;rw[zK0,zL5]at h;obtain⟨b,d,c⟩:=h;cases b with
 |none=>cases c
 |some b=>cases b<;>cases c<;>exact⟨d,trivial⟩
theorem xE.to {G p:Hp}{F F':Fr}{H H':Hp}{s:Option V}{a:A}(n:gO a)(h:xE G F H s a)(g:zv G p)(hf:∀x o,foot s a x->H x=some o->H' x=some o/\¬F'.O0 x/\F'.H0 x=none):xE p F' H' s a:=by
 cases a with
 |dat d=>obtain⟨v,f,b⟩:=h;exact⟨v,f,b.same g⟩
 |ow c=>
  obtain⟨l,o,f,b,i,t,u⟩:=h;obtain⟨k,j,z3⟩:=hf l o f b;exact⟨l,o,f,k,i.same g,j,z3⟩
 |deep d S=>
  obtain⟨v,f,b,i⟩:=h;refine⟨v,f,b.same (uw g λx o z e=>(hf x o z e).1),λx z=>?_⟩;obtain⟨_,_,xs,e⟩:=i x z;obtain⟨k,j,z3⟩:=hf x _ z e;exact⟨j,z3,xs,k⟩
 |tape=>exact n.elim
 |«at» l=>exact h
 |exc r q=>exact n.elim
 |pin l vs ds=>exact⟨h.1,g _ _ h.2.1,h.2.2.same g⟩
 |nst l ls dss=>
  obtain⟨f,b,i,t,u⟩:=h;refine⟨f,(hf l _ zJ6 b).1,i.same g λa ha o e=>(hf a o (zJ2 _ ha) e).1,t,λx m=>?_⟩;rcases zJ1.mp m with z|z
  ·exact(hf x _ m (z▸b)).2
  ·obtain⟨xs,e⟩:=i.obj x z;exact(hf x _ m e).2
def Tp (F:Fr)(x:Addr):Prop:=∃t b c,F.tp=some (t,b,c)/\(x=t\/x=b\/x=c)
noncomputable instance tpDec (F:Fr)(x:Addr):Decidable (Tp F x):=Classical.propDecidable _
noncomputable def Fr.row (F:Fr)(H:Hp)(l:Addr):Fr:=⟨λx=>if Tp F x then H x else F.H0 x,λx=>F.O0 x\/x=l,some (l,l,l)⟩
section
variable {F:Fr}{α α':Ev}{σ σ':St}{H H':Hp}{l:Addr}
theorem Tp.own (t:zB F H){x:Addr}(h:Tp F x):F.O0 x:=by
 obtain⟨a,b,c,e,z⟩:=h;obtain⟨_,d,f,g⟩:=t a b c e;rcases z with z|z|z
 ·rw[z];exact d
 ·rw[z];exact f
 ·rw[z];exact g
theorem Tp.lst (t:zB F H){x:Addr}(h:Tp F x):∃xs,H x=some (.lst xs):=by
 obtain⟨a,b,c,e,z⟩:=h;obtain⟨n,bs,cs,n1,e1,f,d,_⟩:=(t a b c e).1.ex;rcases z with z|z|z
 ·rw[z];exact⟨_,e1⟩
 ·rw[z];exact⟨_,f⟩
 ·rw[z];exact⟨_,d⟩
theorem Tp.noTab (t:zB F H){x:Addr}(h:Tp F x):¬uM x:=λz=>by
 obtain⟨o,e,_,n⟩:=tJ t.tab z;obtain⟨xs,a⟩:=Tp.lst t h;rw[e]at a;cases a;exact n _ rfl
theorem oU (t:zB F H){x:Addr}(h:(F.row H l).H0 x=none):F.H0 x=none:=by
 have h':(if Tp F x then H x else F.H0 x)=none:=h;split at h'
 ·rename_i q;obtain⟨xs,e⟩:=Tp.lst t q;rw[e]at h';cases h'
 ·exact h'
theorem M.row {i:Nat}{x y:Int}(m:M F α σ H)(hi:α[i]?=some (some (.own [.int x,.int y])))(h0:0<=y)(N:y<4294967296):∃l,F.H0 l=none/\¬F.O0 l/\M (F.row H l) ((yP α).set i (some .tape)) σ H:=by
 obtain⟨l,xs,e1,p,G,K,L⟩:=m.own i _ hi;have ex:xs=[.int x,.int y]:=by
  cases G with
  |cons a r=>
   cases r with
   |cons b r=>
    cases r;rw[a.int_inv,b.int_inv]
 subst ex;have old:∀{j:Nat} {a:A},((yP α).set i (some .tape))[j]?=some (some a)->(i=j/\a=.tape)\/(i≠j/\α[j]?=some (some a)/\gO a):=λ{j a} e=>by
  rcases zV e with⟨z,w⟩|⟨z,w⟩
  ·cases w;exact .inl ⟨z,rfl⟩
  ·obtain⟨k,g⟩:=xk w;exact .inr ⟨z,k,g⟩
 have ow:∀{z:Addr},Ow (F.row H l) ((yP α).set i (some .tape)) σ z->Ow F α σ z:=λ{z} h=>by
  rcases h with(h|h)|⟨j,a,s,k,g,C⟩
  ·exact .inl h
  ·rw[h];exact .inr ⟨i,_,_,hi,e1,rfl⟩
  ·rcases old k with⟨_,q⟩|⟨_,q,_⟩
   ·subst q;exact C.elim
   ·exact .inr ⟨j,a,s,q,g,C⟩
 have I:zv (Gz F α σ H) (Gz (F.row H l) ((yP α).set i (some .tape)) σ H):=zu λa o h e=>⟨λz=>h (ow z),e⟩;refine⟨l,L,K,?_,λj a s v d=>?_,λj J a b s t z v d D E f1 f2=>?_,λj r q e=>?_,⟨m.tp.tab,λx h=>.inl (m.tp.ot x h),λt b c e=>?_⟩,λz o e n=>?_,λz hz=>?_⟩
 ·rw[zP5];unfold yP;rw[zI5];exact m.len
 ·rcases old v with⟨z,q⟩|⟨O,q,B⟩
  ·subst z q;rw[e1]at d;cases d;exact⟨l,l,l,rfl,rfl⟩
  ·refine(m.ok j a s q d).to B I λx o f e=>?_;obtain⟨g1,g2,_⟩:=m.ft q d f;refine⟨e,λz=>z.elim g1 λz=>O (m.dj i j _ _ _ _ x hi q e1 d (by rw[z];exact rfl) f),?_⟩;show(if Tp F x then H x else F.H0 x)=none;rw[if_neg λz=>g1 (Tp.own m.tp z)];exact g2
 ·rcases old v with⟨_,q⟩|⟨_,k,_⟩
  ·subst q;exact f1.elim
  ·rcases old d with⟨_,q⟩|⟨_,g,_⟩
   ·subst q;exact f2.elim
   ·exact m.dj j J a b s t z k g D E f1 f2
 ·rcases old e with⟨_,q⟩|⟨_,_,B⟩
  ·cases q
  ·exact B.elim
 ·cases e;exact⟨⟨0,[x,y],[x,y],⟨rfl,rfl⟩,p,p,p,⟨x,y,rfl,h0,N⟩,rfl⟩,.inr rfl,.inr rfl,.inr rfl⟩
 ·have u:(if Tp F z then H z else F.H0 z)=some o:=e;split at u
  ·exact u
  ·rename_i q;exact m.keep z o u ⟨λt b c w=>⟨λy=>q ⟨t,b,c,w,.inl y⟩,λy=>q ⟨t,b,c,w,.inr (.inl y)⟩⟩,n.2⟩
 ·rcases hz with z|z
  ·exact m.oex _ z
  ·exact⟨_,by rw[z];exact p,xO⟩
theorem zB.unrow (t:zB F H)(f:¬F.O0 l)(j:TabAt H')(k:Kz (F.row H l) (F.row H l).H0 H'):zB F H':=⟨j,t.ot,λa b c e=>by
 obtain⟨g,h,i,n⟩:=t a b c e;refine⟨g.off λz hz=>?_,h,i,n⟩;have tz:Tp F z:=⟨a,b,c,e,hz⟩;have m:F.O0 z:=Tp.own t tz;have nl:z≠l:=λq=>f (by rw[<-q];exact m);obtain⟨xs,d⟩:=Tp.lst t tz;rw[d];refine k z _ ?_ ⟨λt' o c' w=>by cases w;exact⟨nl,nl⟩,Tp.noTab t tz⟩;show(if Tp F z then H z else F.H0 z)=some _;rw[if_pos tz];exact d⟩
theorem Kz.unrow (m:M F α σ H)(h0:F.H0 l=none)(k:Kz (F.row H l) (F.row H l).H0 H'):Kz F F.H0 H':=λx o e n=>by
 have nl:x≠l:=λq=>by rw[q,h0]at e;cases e
 refine k x o ?_ ⟨λt' a c' w=>by cases w;exact⟨nl,nl⟩,n.2⟩;show(if Tp F x then H x else F.H0 x)=some o;split
 ·exact m.keep x o e n
 ·exact e
theorem M.unrow (m:M F α σ H)(h0:F.H0 l=none)(n:¬F.O0 l)(c:M (F.row H l) α' σ' H'):M F (yP α') σ' H':=by
 have ow:∀{z:Addr},Ow F (yP α') σ' z->Ow (F.row H l) α' σ' z:=λ{z} h=>by
  rcases h with h|⟨j,a,s,d,k,u⟩
  ·exact .inl (.inl h)
  ·exact .inr ⟨j,a,s,(xk d).1,k,u⟩
 have p:zv (Gz (F.row H l) α' σ' H') (Gz F (yP α') σ' H'):=zu λa o h e=>⟨λz=>h (ow z),e⟩;refine⟨?_,λj a s i g=>?_,λj v a b s t z i g=>c.dj j v a b s t z (xk i).1 (xk g).1,λj r q e=>?_,m.tp.unrow n c.tp.tab c.keep,Kz.unrow m h0 c.keep,λz hz=>c.oex z (.inl hz)⟩
 ·unfold yP;rw[zI5];exact c.len
 ·obtain⟨d,w⟩:=xk i;refine(c.ok j a s d g).to w p λx o f e=>?_;obtain⟨g1,g2,_⟩:=c.ft d g f;exact⟨e,λz=>g1 (.inl z),oU m.tp g2⟩
 ·exact(xk e).2.elim
theorem wt.unrow {v:V}{a:A}(m:M F α σ H)(h0:F.H0 l=none)(b:¬F.O0 l)(r:wt (F.row H l) v H' a):wt F v H' a:=by
 obtain⟨t,k,r⟩:=r;exact⟨m.tp.unrow b t.tab k,Kz.unrow m h0 k,r.to (λ_ z=>.inl z) λx z=>oU m.tp z⟩
end
section
variable {X:Cx}{α:Ev}{E:yo}{sts rest body:List Stmt}{tg iter:Expr}{pos:Pos}
theorem zu0 (i:Nat){x y:Int}(hi:α[i]?=some (some (.own [.int x,.int y])))(h0:0<=y)(j:y<4294967296)
  (h:SvS X ((yP α).set i (some .tape)) sts {nx:=λb=>E.nx (yP b),rt:=E.rt,bk:=λb=>E.bk (yP b),ct:=λb=>E.ct (yP b)}):SvS X α sts E:=λF σ H D m r=>by
 obtain⟨l,e,f,g⟩:=m.row hi h0 j;refine h _ σ H D g ⟨λb d H' c q=>r.nx _ _ _ (m.unrow e f c) q,λa v H' z q=>r.rt a v H' (z.unrow m e f) q,λb d H' c q=>r.bk _ _ _ (m.unrow e f c) q,λb d H' c q=>r.ct _ _ _ (m.unrow e f c) q⟩
theorem zp9 {pat:Pat}{F:Fr}{σ:St}{H:Hp}{D:Ends}(U:PassesOwn (model X.prog X.w) X.A X.env X.xe)(T:X.calm=true)(hg:PG X tg (qA X.K pat))(m:M F α σ H)(r:rz F E D)
  (h:∀R:It->Hp->Prop,(∀ds J H',xW X pat body rest E ds α->zB F H'->Kz F H H'->ItW (λx=>¬Ow F α σ x) J ds (Gz F α σ H')->R J H')->zb1 X tg iter σ H R)
  (O:∀x,foldedSetIterable iter X.env x=pure x):cE X (.For tg iter body [] pos::rest) D σ H:=by
 refine⟨_,zG (cH U T tD hg ya O) ya,?_⟩;refine h _ λds J H1 P t1 Q z=>?_;have m1:=m.kz Q t1;have W:=m1.up;have s:rz (F.up (Gz F α σ H1)) E D:=r.up;refine⟨λi n g H'=>n=ds.length-i/\i<=ds.length/\∃b,M (F.up (Gz F α σ H1)) b g H'/\xW X pat body rest E (ds.drop i) b,⟨ds.length,by simp,zJ8 _,α,W,P⟩,?_⟩;rintro i n g H' ⟨rfl,hi,b,j,lw⟩;obtain⟨V,C⟩:=z i H' _ (m1.upold j);by_cases c:i<ds.length
 ·have hd:ds[i]?=some ds[i]:=zI7 c;rw[zM4 c]at lw;obtain⟨L,G,body⟩:=lw;obtain⟨go,N⟩:=V _ hd;refine .inr ⟨go,λf k=>∃b,M (F.up (Gz F α σ H1)) b f k/\xW X pat _ rest E (ds.drop (i+1)) b,λf k ⟨l,S,I⟩=>⟨ds.length-(i+1),(om0 c),rfl,c,l,S,I⟩,λx B y=>?_⟩;obtain⟨p,t⟩:=N x B y;have m3:=j.kz (Kz.of_same p) (j.tp.same p);refine qB G m3 (t λa o _ e=>j.fresh e) λu m4=>?_;exact body _ u B _ m4 ⟨λd σ2 v m2 q=>⟨d,m2,q⟩,s.rt,λd σ2 v m2 q=>q _ σ2 v D m2 s,λd σ2 v m2 q=>⟨d,m2,q⟩⟩
 ·have e:i=ds.length:=(zS5 hi (zT0 c));subst e;rw[zR6]at lw;exact .inl ⟨C (zJ0 _),lw _ g H' D j s⟩
end
section
variable {P:Program}{w:World}{K:PySem.W.Frag}{mg:Str->Option Value}{base:Heap}
def fr0 (H:Hp):Fr:=⟨H,uM,none⟩
theorem M.zero {H:Hp}{σ:St}{n:Nat}(d:TabAt H)(f:n=σ.length):M (fr0 H) (List.replicate n none) σ H:=by
 have no:∀(i:Nat) a,(List.replicate n (none:Option A))[i]?≠some (some a):=λi a z=>by
  rw[zQ2]at z;split at z<;>cases z
 exact⟨by rw[List.length_replicate];exact f,λi a s e=>absurd e (no i _),λi j a b s t l e=>absurd e (no i _),λi r q e=>absurd e (no i _),⟨d,λ_ h=>h,λt b c e=>by (cases e)⟩,λ_ _ e _=>e,λx g=>by
  obtain⟨o,k,hn,_⟩:=tJ d g;exact⟨o,k,hn⟩⟩
theorem SqL.same {H H':Hp}{a:Addr}{xs:List V}(h:SqL K H a xs)(s:zv H H'):SqL K H' a xs:=by
 rcases h with(h|⟨o,h⟩)|h
 ·exact .inl (.inl (s _ _ h))
 ·exact .inl (.inr ⟨o,s _ _ h⟩)
 ·exact .inr h
theorem zF4 {st:Stmt}{f:Addr}{fd:FuncData}{g:List Str}{k:Nat}{x:Str}{pt:Pos}{Y p1 p2 p3 p4 p5 p6 Z:Pos}{n0 n1:Nat}{B:Int}{body rest:List Stmt}{j:Nat}(G:Fun K "law" "law" st f fd)(S:zT ("_law_script"::g) ["_law_script"] (zf st))
  (hb:zw st=.For (.Name x pt) (.BinOp (.List [.Constant (.int 0) n0 Y] p1) .Add (.Subscript (.Name "_law_script" p2) (.Slice none (some (.Constant (.int B) n1 p3)) none p4) p5) p6) body [] Z::rest)
  (X:Vis (zf st) "_law_script") (hj:(("_law_script":Str)::g)[j]?=some x) (o:Loc (zf st) x)
  (n:∀(cdv:Value) (t:Around) (outer:List Env) (s:Shared) (H:Hp) (E:XK) (zs:List Int),zI k (t.deeper (envOfC "law" (zf st) s.heap.objs.size f cdv))->zs.length<=64->
   xW (wq CX0 P w K mg base ("_law_script"::g) "law" (zf st) f cdv t outer s H E).nox (.one j) body rest {nx:=λ_=>False,rt:=λa=>a=.dat (.bool true)} (zs.map .int) (List.replicate (g.length+1) none)):
  yE P w K mg base CX0 (k+1) f fd ["_law_script"] (oF K):=by
 refine G.ok S (λvs H Q E h=>?_) (λcdv t outer s H vs Qc E hr h=>?_)
 ·obtain⟨a,ns,rfl,_⟩:=h;rfl
 ·obtain⟨a,ns,rfl,O,hn,C,kq⟩:=h;rw[hb];have F:M (fr0 H) (List.replicate (g.length+1) none) (L2.start ("_law_script"::g) [.ref a]) H:=M.zero C (by unfold L2.start;simp);have p:∀{l3:Addr},¬uM l3->¬Ow (fr0 H) (List.replicate (g.length+1) none) (L2.start ("_law_script"::g) [.ref a]) l3:=λ{l3} hn=>by
   rintro(z|⟨i,ds,s,e1,e2,_⟩)
   ·exact hn z
   ·rw[zQ2]at e1;split at e1<;>cases e1
  refine zp9 (E:={nx:=λ_=>False,rt:=λa=>a=.dat (.bool true)}) (pat:=.one j) zZ7 rfl (zM (i:=j) S.nd hj o) F ⟨λ_ _ _ _ z=>z.elim,λz v H' r e=>?_,λ_ _ _ _ z=>z.elim,λ_ _ _ _ z=>z.elim⟩ (λR U=>?_) (λ_=>rfl)
  ·cases e;obtain⟨_,_,r⟩:=r;rw[AV.bl_inv r];exact kq H'
  ·refine⟨_,lH (xf hJ (eX (zE yc yp)) (ou lC (yX (i:=0) rfl X) kA (ki yc))),?_⟩;obtain⟨ms,em,lm⟩:=fX ns none (some B);refine⟨(by show 1<=sizeLine;decide),λl1 q=>⟨_,rfl,B,rfl,a,ns.map V.int,rfl,SqL.same O (zU q),λl2 c=>?_⟩⟩;rw[em]at *;have m:l1≠l2:=λz=>by rw[<-z,zk]at c;cases c
   have L:H l2=none:=by rw[zh m.symm]at c;exact c
   refine⟨l1,l2,[.int 0],ms.map V.int,rfl,rfl,by rw[zh m];exact zk,zk,by rw[zI5];exact zN6 (yw (by simp;lia)),λl3 b=>?_⟩;have N:([V.int 0]++ms.map V.int)=((0::ms).map V.int):=rfl;rw[N];have s3:zv H (upd (upd (upd H l1 (.lst [.int 0])) l2 (.lst (ms.map V.int))) l3 (.lst ((0::ms).map V.int))):=((zU q).trans (zU c)).trans (zU b);have l:H l3=none:=by
    have A:l3≠l2:=λz=>by rw[z,zk]at b;cases b
    have u:l3≠l1:=λz=>by rw[z,zh m,zk]at b;cases b
    rw[zh A,zh u]at b;exact b
   refine⟨l3,rfl,⟨_,SqL.of zk⟩,U ((0::ms).map .int) _ _ (n cdv t outer s H E (0::ms) hr (by simp;exact zK1 lm hn)) (F.tp.same s3) (Kz.of_same s3) λi H2 p' J=>⟨λd hd=>?_,λD=>?_⟩⟩
   ·have ha:=SqL.of (K:=K) (zj (J l3 _ (zF (p (vS C l)) zk))).2;obtain⟨v,o,av⟩:=(vJ (G:=H) (0::ms)).get hd;refine⟨⟨_,v,ha,o⟩,λx' H3 y=>?_⟩;obtain⟨e,y⟩:=y;subst e;have:=y _ ha;rw[o]at this;cases this;rw[zK0,zL5]at hd o;obtain⟨z1,T,rfl⟩:=hd;obtain⟨z2,I,rfl⟩:=o;rw[T]at I;cases I;exact⟨zv.refl _,λ_=>.int _⟩
   ·exact⟨_,SqL.of (zj (J l3 _ (zF (p (vS C l)) zk))).2,by rw[zI5]at D ⊢;exact D⟩
end
section
variable {X:Cx}{α:Ev}{p pos ap:Pos}{a b c:Expr}{Q:PyData->Prop}
end
section
variable {X:Cx}{α:Ev}{E:yo}{rest:List Stmt}{tg iter:Expr}{pos:Pos}
end
end L2
namespace SetW
open PySem PyProof.Rows
abbrev Up (xs:Array Nat):Prop:=xs.toList.Pairwise (·<·)
def Ris (t:SetTable):Prop:=t.plain=true->Up t.place
theorem Up.lt {xs:Array Nat}(h:Up xs){i j:Nat}(a:i<j)(b:j<xs.size):xs[i]'(zZ9 a b)<xs[j]:=by
 have:=zR0.mp h i j (by simpa using zZ9 a b) (by simpa using b) a;simpa using this
theorem sP {xs:Array Nat}(h:Up xs)(j:Nat):∀f lo up,up-lo<=f->lo<=up->up<=xs.size->(∀i (hi:i<xs.size),i<lo->xs[i]<j)->(∀i (hi:i<xs.size),up<=i->j<=xs[i])->
  SetTable.below.go xs j f lo up<=xs.size/\(∀i (hi:i<xs.size),i<SetTable.below.go xs j f lo up->xs[i]<j)/\(∀i (hi:i<xs.size),SetTable.below.go xs j f lo up<=i->j<=xs[i])
 |0,lo,up,hf,hle,k,d,g=>by
  have e:lo=up:=by lia
  subst e;exact⟨k,d,g⟩
 |f+1,lo,up,hf,hle,k,d,g=>by
  unfold SetTable.below.go;by_cases b:lo<up
  ·rw[if_pos b];have hm:(lo+up) / 2<xs.size:=by lia
   have m:xs.getD ((lo+up) / 2) j=xs[(lo+up) / 2]:=by simp[Array.getD,hm]
   dsimp only;rw[m];by_cases c:xs[(lo+up) / 2]<j
   ·rw[if_pos c];refine sP h j f ((lo+up) / 2+1) up (by lia) (by lia) k (λi a l=>?_) g;rcases zN2 i ((lo+up) / 2)with z|z
    ·exact zZ9 (h.lt z hm) c
    ·have e:i=(lo+up) / 2:=by lia
     subst e;exact c
   ·rw[if_neg c];refine sP h j f lo ((lo+up) / 2) (by lia) (by lia) (by lia) d (λi a l=>?_);rcases zN2 ((lo+up) / 2) i with z|z
    ·have:=h.lt z a
     lia
    ·have e:i=(lo+up) / 2:=by lia
     subst e
     lia
  ·rw[if_neg b];have e:lo=up:=by lia
   subst e;exact⟨k,d,g⟩
theorem vQ {xs:Array Nat}(h:Up xs)(j:Nat):SetTable.below xs j<=xs.size/\(∀i (hi:i<xs.size),i<SetTable.below xs j->xs[i]<j)/\(∀i (hi:i<xs.size),SetTable.below xs j<=i->j<=xs[i]):=
 sP h j xs.size 0 xs.size (by lia) (zJ8 _) (zJ0 _) (λi _ z=>absurd z (zZ6 _)) (λi hi z=>absurd hi (by lia))
theorem iC {xs:Array Nat}(h:Up xs){i:Nat}(hi:i<xs.size):SetTable.below xs xs[i]=i:=by
 obtain⟨a,b,c⟩:=vQ h xs[i];rcases zN2 i (SetTable.below xs xs[i])with z|z
 ·have:=b i hi z
  lia
 ·rcases zN2 (SetTable.below xs xs[i]) i with y|y
  ·have d:=c _ (by lia) (zJ0 _);have e:=h.lt y hi
   lia
  ·lia
theorem nV {xs:Array Nat}(h:Up xs){i:Nat}(hi:i<xs.size):SetTable.below xs (xs[i]+1)=i+1:=by
 obtain⟨a,b,c⟩:=vQ h (xs[i]+1);rcases zN2 i (SetTable.below xs (xs[i]+1))with z|z
 ·rcases zN2 (i+1) (SetTable.below xs (xs[i]+1))with y|y
  ·have d:=b (i+1) (by lia) y;have f:=h.lt (zO3 i) (show i+1<xs.size by lia);have e:xs[i.succ]'(by lia)=xs[i+1]'(by lia):=rfl
   lia
  ·lia
 ·have:=c i hi z
  lia
theorem mM {xs:Array Nat}(h:Up xs):SetTable.below xs 0=0:=by
 obtain⟨a,b,c⟩:=vQ h 0;rcases zN2 0 (SetTable.below xs 0)with z|z
 ·have:=b 0 (by lia) z
  lia
 ·lia
def Off (t:SetTable)(j:Nat):Prop:=t.place[SetTable.below t.place j]?≠some j
theorem Off.notin {t:SetTable}{j:Nat}(h:Off t j)(u:Up t.place):j∉t.place.toList:=λz=>by
 obtain⟨i,hi,e⟩:=zZ2 z;have a:i<t.place.size:=by simpa using hi
 have b:t.place[i]=j:=by simpa using e
 have:=iC u a;rw[b]at this;exact h (by rw[this,zR2 a,b])
theorem oi {t:SetTable}{j:Nat}(h:∀i,t.slot j≠.live i):Off t j:=λz=>by
 refine h (SetTable.below t.place j) ?_;unfold SetTable.slot;simp only[z,beq_self_eq_true,zY9]
theorem uB {t:SetTable}{ha:Nat->Int}{c:Int}:∀f (p:SetTable.Probe) {j:Nat}{d:Option Nat},(∀x,p.dummy=some x->Off t x)->SetTable.probe.go t ha c f p=some (.empty j d)->Off t j/\∀x,d=some x->Off t x
 |0,p,j,d,_,e=>by cases e
 |f+1,p,j,d,h,e=>by
  unfold SetTable.probe.go at e;split at e
  ·rename_i b;cases e;exact⟨oi (λi z=>by rw[b]at z;cases z),h⟩
  ·rename_i b;refine uB f _ (λx a=>?_) e;have:∀q:SetTable.Probe,(t.advance q).dummy=q.dummy:=λq=>by unfold SetTable.advance;split<;>rfl
   rw[this]at a;cases a;exact oi λi z=>by rw[b]at z;cases z
  ·rename_i i b;have:∀q:SetTable.Probe,(t.advance q).dummy=q.dummy:=λq=>by unfold SetTable.advance;split<;>rfl
   split at e
   ·cases e
   ·exact uB f _ (λx a=>by rw[this]at a;exact h x a) e
theorem gh {t:SetTable}{h:Int}{j:Nat}{b:Bool}(e:t.freeSlot h=some (j,b)):Off t j:=by
 unfold SetTable.freeSlot at e;split at e
 ·rename_i i d c;cases e;obtain⟨f,g⟩:=uB _ _ (λx a=>by unfold SetTable.probeStart at a;cases a) c;cases d with
  |none=>exact f
  |some x=>exact g x rfl
 ·cases e
theorem iE {xs:Array Nat}{j:Nat}(h:Up xs)(f:j∉xs.toList):Up (SetTable.insertAt xs (SetTable.below xs j) j):=by
 obtain⟨a,b,c⟩:=vQ h j;have e1:∀y∈xs.toList.take (SetTable.below xs j),y<j:=λy hy=>by
  obtain⟨i,hi,e⟩:=zZ2 hy;rw[zO9]at hi;rw[List.getElem_take]at e;have:=b i (by simp at hi;lia) (by lia);simp at e
  lia
 have d:∀y∈xs.toList.drop (SetTable.below xs j),j<y:=λy hy=>by
  have hne:y≠j:=λz=>f (z▸zQ4 hy);obtain⟨i,hi,e⟩:=zZ2 hy;rw[zW3]at hi;rw[List.getElem_drop]at e;have g:i<xs.size-SetTable.below xs j:=by simpa using hi
  have:=c (SetTable.below xs j+i) (by lia) (by lia);simp at e
  lia
 unfold Up;rw[SetTable.toList_insertAt,zM3];refine⟨h.sublist (zU0 _ _),List.pairwise_cons.mpr ⟨d,h.sublist (zU1 _ _)⟩,λy hy z hz=>?_⟩;rcases zJ1.mp hz with rfl|hz
 ·exact e1 y hy
 ·exact zZ9 (e1 y hy) (d z hz)
theorem aE {t:SetTable}(es:Array (Int×Value))(h:Int)(x:Value)(r:Ris t):Ris (layNew t es h x).2.1/\(layNew t es h x).2.1.led=t.led:=by
 unfold layNew;split
 ·rename_i j b hf;have c:=gh hf;dsimp only;unfold SetTable.orStandIn;split
  ·refine⟨λa=>?_,rfl⟩;exact iE (r a) (c.notin (r a))
  ·exact⟨λa=>Bool.noConfusion (show false=true from a),rfl⟩
 ·exact⟨λa=>Bool.noConfusion (show false=true from a),rfl⟩
theorem iP {t:SetTable}(es:Array (Int×Value))(n:Nat):Ris (relayAll t es n).2.1/\(relayAll t es n).2.1.led=t.led:=by
 unfold relayAll;split
 ·rename_i t' order hr;unfold SetTable.relaid SetTable.laid at hr;cases ho:SetTable.layClean (SetTable.sizeAbove n-1) (es.map (·.1))with
  |none=>rw[ho]at hr;cases hr
  |some owner=>
   rw[ho]at hr;cases hr;dsimp only;split
   ·refine⟨λ_=>?_,rfl⟩;show(List.toArray _).toList.Pairwise (·<·);rw[List.toList_toArray];have key:∀(l:List Nat),l.Pairwise (·<·)->((l.filterMap λj=>(owner.getD j none).map λy=>(j,y)).map (·.1)).Pairwise (·<·):=by
     intro l d;rw[List.map_filterMap];refine List.Pairwise.sublist ?_ d;have:∀l:List Nat,(l.filterMap λj=>Option.map (λx:Nat×Nat=>x.1) ((owner.getD j none).map λy=>(j,y))).Sublist l:=by
      intro l
      induction l with
      |nil=>exact .slnil
      |cons a l c=>
       rw[zZ0];cases owner.getD a none with
       |none=>exact c.cons _
       |some y=>exact c.cons_cons _
     exact this l
    exact key _ List.pairwise_lt_range
   ·exact⟨λb=>Bool.noConfusion (show false=true from b),rfl⟩
 ·exact⟨λb=>Bool.noConfusion (show false=true from b),rfl⟩
section
variable {prog:Program}{w:World}{A:Around}{E:Value->Shared->Prop}{s:Shared}
structure WkO (prog:Program)(w:World)(o:Obj)(S:Int->Bool)(n:Nat)(b:Bool)(es:Array (Int×Value))(ep:Nat)(t:SetTable):Prop where
 ex:o.ExactSet
 dt:o.data=.set es ep t
 el:ElemsOf (intKind prog w) es.toList
 mem:∀k,S k=true↔∃e∈es.toList,(intKind prog w).is k e.2=true
 sb:es.size<scanBound
 fit:t.fits es.size=true
 sz:es.size=n
 led:t.led=b
 ris:Ris t
def Wk (prog:Program)(w:World)(h:Heap)(a:Addr)(S:Int->Bool)(n:Nat)(b:Bool):Prop:=∃o es ep t,h.get? a=some o/\WkO prog w o S n b es ep t
theorem Wk.keep {h h':Heap}{a:Addr}{S:Int->Bool}{n:Nat}{b:Bool}(k:∀o,h.get? a=some o->h'.get? a=some o)(x:Wk prog w h a S n b):Wk prog w h' a S n b:=by
 obtain⟨o,es,ep,t,c,r⟩:=x;exact⟨o,es,ep,t,k o c,r⟩
theorem Wk.congr {h:Heap}{a:Addr}{S c:Int->Bool}{n d:Nat}{b:Bool}(x:Wk prog w h a S n b)(e:∀k,S k=c k)(f:n=d):Wk prog w h a c d b:=by
 have:S=c:=funext e;subst this f;exact x
theorem WkO.put {h:Heap}{a:Addr}{o:Obj}{S d:Int->Bool}{n:Nat}{b c:Bool}{es es':Array (Int×Value)}{ep:Nat}{t t':SetTable}(f:h.get? a=some o)(x:WkO prog w o S n b es ep t)
  (el:ElemsOf (intKind prog w) es'.toList) (mem:∀k,d k=true↔∃e∈es'.toList,(intKind prog w).is k e.2=true) (sb:es'.size<scanBound) (fit:t'.fits es'.size=true) (led:t'.led=c) (ris:Ris t'):
  ∃o',(h.update a (Obj.putSet es' t')).get? a=some o'/\WkO prog w o' d es'.size c es' (ep+1) t':=by
 refine⟨{o with data:=.set es' (ep+1) t'},?_,x.ex,rfl,el,mem,sb,fit,rfl,led,ris⟩;have:=zV0 (Obj.putSet es' t') f (by rw[putSet_of es' t' x.dt];rfl)
 rwa [putSet_of es' t' x.dt]at this
theorem kQ {g:Bool->Sem Unit}(hg:∀(d:Bool) (i:Shared) (y:Unit->Shared->Prop),y () i->wpAny (model prog w) A (g d) y E i){a:Addr}{o:Obj}{S B:Int->Bool}{n:Nat}{b:Bool}{es c:Array (Int×Value)}{ep:Nat}{t f:SetTable}
  (v:s.heap.get? a=some o) (x:WkO prog w o S n b es ep t) (el:ElemsOf (intKind prog w) c.toList) (mem:∀k,B k=true↔∃e∈c.toList,(intKind prog w).is k e.2=true) (sb:c.size<scanBound) (fit:f.fits c.size=true) (led:f.led=b) (ris:Ris f)
  {D:Bool} {R:Option Bool->Shared->Prop} (h:∀h',Heap.SameBut a s.heap h'->Wk prog w h' a B c.size b->R (some true) {s with heap:=h'}):
  wpAny (model prog w) A (storeSet a c f >>= λ_=>if(!D&&f.tooFull)=true then(g (relayAll f c (SetTable.grown c.size)).2.2 >>= λ_=>storeSet a (relayAll f c (SetTable.grown c.size)).1 (relayAll f c (SetTable.grown c.size)).2.1 >>= λ_=>pure (some true))else pure (some true)) R E s:=by
 refine zI3 (wpAny_storeSet_of v x.dt ?_ (z08 sb));obtain⟨C,l,r⟩:=x.put v el mem sb fit led ris;have same:=zQ9 s.heap a (Obj.putSet c f);split
 ·obtain⟨m,p⟩:=iP (t:=f) c (SetTable.grown c.size);have pm:=relayAll_perm f c (SetTable.grown c.size);have ft:=relayAll_fits f c (SetTable.grown c.size);generalize relayAll f c (SetTable.grown c.size)=Z at m p pm ft;obtain⟨j,t3,G⟩:=Z;dsimp only at m p pm ft ⊢;have sz:j.size=c.size:=by rw[<-zP7,pm.length_eq,zP7]
  refine zI3 (hg _ _ _ (zI3 (wpAny_storeSet_of l r.dt ?_ (z08 (by lia)))));obtain⟨F,u,z⟩:=r.put (es':=j) (t':=t3) l (el.perm pm) (λk=>(mem k).trans ⟨λ⟨e,he,q⟩=>⟨e,pm.mem_iff.mpr he,q⟩,λ⟨e,he,q⟩=>⟨e,pm.mem_iff.mp he,q⟩⟩) (by lia) ft (p.trans led) m;rw[sz]at z;exact zI6 (h _ (same.trans (zQ9 _ a _)) ⟨F,j,_,t3,u,z⟩)
 ·exact zI6 (h _ same ⟨C,c,_,f,l,r⟩)
theorem zk3 {a:Addr}{S:Int->Bool}{n:Nat}{b:Bool}{k:Int}{tk:Tok}{Q:Bool->Shared->Prop}(x:Wk prog w s.heap a S n b)(G:n+1<scanBound)
  (h:∀h',Heap.SameBut a s.heap h'->Wk prog w h' a (λj=>S j||decide (j=k)) (if S k then n else n+1) b->∀r,Q r {s with heap:=h'}):
  wpAny (model prog w) A (setAddHashed a (.int k tk) ((intKind prog w).hash k)) Q E s:=by
 obtain⟨o,es,ep,t,m,x⟩:=x;have g:(intKind prog w).is k (.int k tk)=true:=intKind_is _ _ _ _;have B:(Value.int k tk).scannable=true:=rfl;unfold setAddHashed setAddHashedIn;refine zN7 (zI3 (zU2 m x.dt x.fit ?_));dsimp only;rw[byScan_of B x.sb x.el,if_pos rfl];unfold setAddByScan;refine zI3 (zI3 (zR7 (zI3 (wpAny_setScan_of g m x.dt x.fit x.el ?_))));cases hr:List.findIdx? (λe=>(intKind prog w).is k e.2) es.toList with
 |some j=>
  obtain⟨J,F,_⟩:=List.findIdx?_eq_some_iff_getElem.mp hr;have i:S k=true:=(x.mem k).mpr ⟨_,zT1 J,F⟩;refine zI6 (zI6 ?_);have q:=h s.heap (Heap.SameBut.refl a s.heap) ⟨o,es,ep,t,m,x.ex,x.dt,x.el,λI=>by
   rw[zX2,zS3,<-x.mem I];exact⟨λz=>z.elim id λe=>e▸i,.inl⟩,x.sb,x.fit,by rw[i];exact x.sz,x.led,x.ris⟩
  cases s;exact q _
 |none=>
  have i:S k=false:=by
   cases hk:S k with
   |false=>rfl
   |true=>
    obtain⟨e,he,K⟩:=(x.mem k).mp hk;have:=List.findIdx?_eq_none_iff.mp hr e he;rw[K]at this;cases this
  obtain⟨C,nl⟩:=aE es ((intKind prog w).hash k) (.int k tk) x.ris;have pm:=layNew_perm t es ((intKind prog w).hash k) (.int k tk);have ft:=layNew_fits t es ((intKind prog w).hash k) (.int k tk);dsimp only;generalize layNew t es ((intKind prog w).hash k) (.int k tk)=L at C nl pm ft;obtain⟨f,t1,N,M⟩:=L;dsimp only at C nl pm ft ⊢;rw[zU3]at pm;have D:f.size=n+1:=by rw[<-zP7,pm.length_eq,zL4,zP7,x.sz];rfl
  have v:ElemsOf (intKind prog w) f.toList:=(x.el.push g B).perm pm;have l:∀j,(S j||decide (j=k))=true↔∃e∈f.toList,(intKind prog w).is j e.2=true:=mem_push_iff g x.mem pm;have fin:∀h',Heap.SameBut a s.heap h'->Wk prog w h' a (λj=>S j||decide (j=k)) f.size b->∀r,Q r {s with heap:=h'}:=λh' sb y=>by
   have:=h h' sb;rw[i]at this;exact this (y.congr (λ_=>rfl) D)
  refine zI3 ?_;have H:∀(d:Bool) (c:Shared) (u:Unit->Shared->Prop),u () c->wpAny (model prog w) A (match d with|true=>rule "set.scan.the-table-gave-way"|false=>pure ()) u E c:=λd c u hq=>by
   cases d
   ·exact zI6 hq
   ·exact zR7 hq
  refine H _ _ _ ?_;have p:f.size<scanBound:=by lia
  split
  ·rw[show hashByValue 8 (Value.int k tk)=pure true from rfl];refine zI3 (zI6 ?_);simp only[zY9];refine kQ ?_ m x v l p ft (nl.trans x.led) C λh' sb y=>zI6 (fin h' sb y _);intro d c u hq;cases d<;>first|exact zI6 hq|exact zR7 hq
  ·refine zI3 (zI6 ?_);simp only[zY9];refine kQ ?_ m x v l p ft (nl.trans x.led) C λh' sb y=>zI6 (fin h' sb y _);intro d c u hq;cases d<;>first|exact zI6 hq|exact zR7 hq
end
def yS (w:World):Bool:=!w.params.followText "set-order"
abbrev tq (w:World):Obj:={cls:=.type "set",dict:=none,data:=.set #[] 0 (.fresh 0 0 (yS w))}
theorem aZ {prog:Program}{w:World}:WkO prog w (tq w) (λ_=>false) 0 (yS w) #[] 0 (.fresh 0 0 (yS w)):=
 ⟨⟨rfl,rfl,rfl⟩,rfl,λe he=>by simp at he,λk=>by simp,by decide,by rfl,rfl,rfl,λ_=>.nil⟩
section
variable {prog:Program}{w:World}{A:Around}{E:Value->Shared->Prop}{s:Shared}
theorem zt5 (v:Value){Q₁:Value->Shared->Prop}(h:Q₁ (.ref s.heap.objs.size) {s with heap:=s.heap.push (tq w)}):codeAny (model prog w) A (.call (.builtin "set.__new__") ⟨[.type "set",v],[]⟩) (wants Q₁ E) s:=by
 refine codeAny_of_tree ?_;show wpAny _ A.in1 (checkBuiltinCall "set.__new__" ⟨[.type "set",v],[]⟩ >>= λ_=>again (.builtin "set.__new__" ⟨[.type "set",v],[]⟩)) _ _ s;refine zI3 (zX4 (F.newCall_set_1 v) (zI6 ⟨zW9 F.plain_set_new _,zT7 F.entry_set_new ?_⟩));rw[zR9 F.plain_set_new _];unfold Builtin.«set.__new__» Builtin.Frozenset.newClass;have a:=sub_set_self;obtain⟨b,g,d,tk,os⟩:=s;dsimp only
 wp_walk
 refine zU6 (zI6 ?_);simp only[newObj];exact zI3 (wpAny_alloc (zI6 (zI6 h)))
end
section
variable {prog:Program}{w:World}{A:Around}{R:Result->Shared->Prop}{I:Addr}{fp wr:List Addr}{G:Array GenState->Array GenState->Prop}{n:Nat}{P:Nat->Value->Prop}{St:Nat->Shared->Prop}{b:Bool}
theorem aM (W:WalksS prog w A.in1 I fp wr G n P St)(S:Addr)(f:S∉fp)(val:Nat->Int)(q:∀i v,P i v->∃t,v=.int (val i) t)(hb:n+1<scanBound):
  ∀(k i:Nat) (s:Shared),n-i=k->i<=n->St i s->Wk prog w s.heap S (λj=>(firstMet val i).any (· == j)) (firstMet val i).length b->
   (∀s',Moved (S::wr) G s s'->Wk prog w s'.heap S (λj=>(firstMet val n).any (· == j)) (firstMet val n).length b->R (.ok (.ret .none)) s')->
   codeAny (model prog w) A (.builtin "set.update.loop" ⟨[.ref S,.ref I],[]⟩) R s:=by
 have u:S∉wr:=λh=>f (W.sub _ h);have a:∀c∈wr,c∈S::wr:=λc p=>zJ2 _ p;intro k
 induction k with
 |zero=>
  intro i s hk hi d x D;have e:i=n:=by lia
  subst e;refine zT7 F.entry_set_update_loop ?_;rw[zR9 F.plain_set_update_loop _];exact zI3 (W.done s _ _ d λs' hm=>zI6 (D s' (hm.mono a) (x.keep λo B=>hm.heap S _ u B)))
 |succ k H=>
  intro i s hk hi d x D;have g:i<n:=by lia
  refine zT7 F.entry_set_update_loop ?_;rw[zR9 F.plain_set_update_loop _];refine zI3 (W.item i s _ _ g d λv s' E l hm=>?_);obtain⟨t,rfl⟩:=q i v E;have J:Wk prog w s'.heap S (λj=>(firstMet val i).any (· == j)) (firstMet val i).length b:=x.keep λo B=>hm.heap S _ u B;show wpAny _ A.in1 (holding [Value.int (val i) t] (setAdd S (.int (val i) t)) >>= _) _ _ s';refine zI3 (zN7 ?_);unfold setAdd;refine zN7 (zI3 ((intKind prog w).pyHash (k:=val i) (intKind_is _ _ _ _) ?_));have room:(firstMet val i).length+1<scanBound:=by have:=firstMet_length_le val i;lia
  refine zk3 (s:={s' with toks:=s'.toks+1}) J room λh' y K r=>?_;have M:Wk prog w h' S (λj=>(firstMet val (i+1)).any (· == j)) (firstMet val (i+1)).length b:=K.congr (λj=>by rw[firstMet_succ,step_any]) (by rw[firstMet_succ,step_length]);refine zI6 ⟨zW9 F.plain_set_update_loop _,H (i+1) _ (by lia) g (W.frame _ s' _ _ l (zT5 _) λc p o e=>?_) M λC m L=>?_⟩
  ·rw[y.2 c λz=>f (by rw[<-z];exact p)];exact e
  ·refine D C (Moved.trans W.gtrans ((hm.mono a).then_heap (zT5 _) λc o p e=>?_) m) L;rw[y.2 c λz=>p (by rw[z];exact zJ6)];exact e
end
section
variable {prog:Program}{w:World}{A:Around}{E:Value->Shared->Prop}{s:Shared}
theorem zu1 {l:Addr}{its:Array Value}{ns:List Int}{Q:Value->Shared->Prop}(V:A.handled=none)(X:s.heap.IsList l its)(hi:IntsAre its.toList ns)(hb:its.size+1<scanBound)
  (h:∀(h':Heap) (tk:Nat),Wk prog w h' s.heap.objs.size (λj=>(firstMet (λi=>ns.getD i 0) its.size).any (· == j)) (firstMet (λi=>ns.getD i 0) its.size).length (yS w)->
   (∀c o,c<s.heap.objs.size->s.heap.get? c=some o->h'.get? c=some o)->Q (.ref s.heap.objs.size) {s with heap:=h',toks:=tk}):wpAny (model prog w) A (call (.type "set") [.ref l]) Q E s:=by
 obtain⟨c,tl,L⟩:=zW5.mro;have B:=zW5.made;have M:=zW5.sub;refine wpAny_call (codeAny_of_tree ?_);show wpAny _ _ (callAny (.type "set") _) _ _ _;refine zI6 ⟨Code.quiet_builtin _ (by decide +kernel),zT7 F.entry_type_call ?_⟩;rw[Around.under_plain (weight_type_call_type "set" [.ref l] []) rfl];have h1:=zW5.notType;have h2:=zW5.canCreate;have a0:=F.typeCall_set_1 (.ref l)
 repeat (any_goals (first|assumption|wp_step))
 refine zX7 (zt5 (.ref l) (E:=E) (Q₁:=λob d=>ob=.ref s.heap.objs.size/\d={s with heap:=s.heap.push (tq w)}) ⟨rfl,rfl⟩) λr d hr=>?_;cases r with
 |error e=>exact hr
 |ok W=>
  cases W with
  |ret ob=>
   obtain⟨rfl,rfl⟩:=hr;have I:(s.heap.push (tq w)).get? s.heap.objs.size=some (tq w):=zJ4 _ rfl;have U:Shared.TypeIs {s with heap:=s.heap.push (tq w)} (.ref s.heap.objs.size) "set":=⟨_,I,rfl⟩;have S:=zW5.init.lookup;have hbi:=zW5.init.bind (.ref s.heap.objs.size)
   repeat (any_goals (first|assumption|wp_step))
   refine zX7 (codeAny_call_builtin (R:=wants (λr f=>r=.none/\∃h' tk,f={s with heap:=h',toks:=tk}/\Wk prog w h' s.heap.objs.size (λj=>(firstMet (λi=>ns.getD i 0) its.size).any (· == j)) (firstMet (λi=>ns.getD i 0) its.size).length (yS w)/\
     (∀c o,c<s.heap.objs.size->s.heap.get? c=some o->h'.get? c=some o)) E) zW5.init.plain F.entry_set_init (check_set_init_1 U ?_)) λn f a=>?_
   ·obtain⟨ol,q,hcl,nl,u⟩:=X;obtain⟨O,k,H,b⟩:=ol;simp only at hcl u;subst hcl u;have y:(s.heap.push (tq w)).get? l=some {cls:=.type "list",dict:=k,data:=.seq its nl,slots:=b}:=zI4 _ q;have J:=F.sub_list_set;have N:=F.sub_list_frozenset;have hne:(Value.type "list" == Value.type "dict")=false:=by decide
    have m:(s.heap.push (tq w)).IsList l its:=⟨_,y,rfl,nl,rfl⟩;unfold Builtin.«set.__init__» noKeywords Builtin.Frozenset.updateFrom;generalize D:pyIter=PI
    wp_walk
    subst D;refine zX5 m (zI3 (wpAny_runValue ?_));have t:l<s.heap.objs.size:=zJ5 q;have sz:(s.heap.push (tq w)).objs.size=s.heap.objs.size+1:=zP8 _ _;have p:l≠(s.heap.push (tq w)).objs.size:=by rw[sz];exact zK2 (zP4 t)
    have C:s.heap.objs.size∉[(s.heap.push (tq w)).objs.size,l]:=by
     rw[sz];simp only[zJ1,zK5,zN1,not_or];exact⟨zK2 (zO3 _),zT6 t⟩
    refine aM ((Walks.list (by simp[V]) _ l p its).toS) s.heap.objs.size C (λi=>ns.getD i 0) (λi v T=>IntsAre.int_at hi i v (by rw[zV3];exact T)) hb (its.size-0) 0 _ (by lia) (zJ8 _)
     ⟨⟨_,zJ4 _ rfl,rfl,rfl⟩,m.push _⟩ ⟨tq w,_,_,_,zI4 _ I,aZ⟩ λs' hm x=>?_
    obtain⟨h',g',d',z,G⟩:=s';have Y:g'=s.gens:=hm.gens;have Z:d'=s.drawn:=hm.drawn;have P:G=s.os:=hm.os;subst Y Z P;refine zI6 (zI6 ⟨rfl,h',z,rfl,x,λc o K e=>?_⟩);refine hm.heap c o ?_ (zI4 _ (zI4 _ e));rw[sz];simp only[zJ1,zK5,zN1,not_or];exact⟨zK2 K,zK2 (zP4 K)⟩
   ·cases n with
    |error e=>exact a
    |ok g=>
     cases g with
     |ret r=>
      obtain⟨rfl,h',tk,rfl,x,hk⟩:=a
      repeat (any_goals (first|assumption|wp_step))
      exact h _ _ x hk
     |_=>exact a.elim
  |_=>exact hr.elim
end
theorem vm {α:Type}:∀(l:List α) (i:Nat) (x:α),l[i]?=some x->(x::l.eraseIdx i).Perm l
 |[],i,x,h=>by simp at h
 |a::l,0,x,h=>by simp at h;subst h;exact .refl _
 |a::l,i+1,x,h=>by
  have h':l[i]?=some x:=by simpa using h
  exact(List.Perm.swap a x (l.eraseIdx i)).trans ((vm l i x h').cons a)
theorem jf {α:Type}(next:Nat->Nat):∀(f k:Nat) (left:List α) (out:Array α),left.length=f->(pickOrder.go next f k left out).toList.Perm (out.toList++left)
 |0,k,left,out,e=>by
  rw[zW8.mp e,zO1];exact .refl _
 |f+1,k,left,out,e=>by
  unfold pickOrder.go;have a:next k % left.length<left.length:=Nat.mod_lt _ (by lia)
  rw[zI7 a];dsimp only;refine(jf next f (k+1) _ _ (by rw[List.length_eraseIdx];split<;>lia)).trans ?_;rw[zU3,zK8];exact zN8 _ (vm left _ _ (zI7 a))
theorem vY {α:Type}(next:Nat->Nat)(xs:Array α):(pickOrder next xs).toList.Perm xs.toList:=by
 have:=jf next xs.size 0 xs.toList #[] (by simp)
 simpa[pickOrder]using this
section
variable {prog:Program}{w:World}{A:Around}{E:Value->Shared->Prop}
theorem iw {M:Model}{src:Source}{n:Nat}{s:Shared}{Q:Nat->Shared->Prop}(hn:n≠0)(h:∀i d,i<n->Q i {s with drawn:=d}):wpAny M A (choose src n) Q E s:=λ_ _ _=>⟨hn,h _ _ (Nat.mod_lt _ (Nat.pos_of_ne_zero hn))⟩
theorem jc {α:Type}:∀(n:Nat) (xs:List α) {s:Shared}{Q:List α->Shared->Prop},xs.length=n->(∀ys d,ys.Perm xs->Q ys {s with drawn:=d})->wpAny (model prog w) A (drawOrder n xs) Q E s
 |0,xs,s,Q,e,h=>by
  rw[zW8.mp e]at h;cases s;exact zI6 (h [] _ (.refl _))
 |n+1,[],s,Q,e,h=>by cases e
 |n+1,x::xs,s,Q,e,h=>by
  unfold drawOrder;refine zI3 (iw (by simp) λi b a=>?_);rw[zI7 a];dsimp only;refine zI3 (jc n _ (by rw[List.length_eraseIdx,if_pos a];simp at e ⊢;lia) λys d hy=>zI6 ?_);exact h _ d ((hy.cons _).trans (vm _ _ _ (zI7 a)))
end
theorem yi :Slot "set_iterator" "__next__" "set_iterator.__next__":=
 .of (owner:="set_iterator") (n:="__next__") (by rw[z31,zY0];kernel_rfl) (by decide +kernel) (by decide +kernel) (by decide +kernel) (by first|exact .inl (by decide +kernel)|exact .inr (by decide +kernel)) (by rw[isSubtype_type];kernel_rfl)
theorem wF :entryFor table "set_iterator.__next__"=some Builtin.«set_iterator.__next__»:=entryFor_of_fast (by kernel_rfl)
theorem vL (a:Value):argsOk "set_iterator.__next__" ⟨[a],[]⟩:=by unfold argsOk;kernel_rfl
theorem iQ :entryFor table "set.__iter__"=some Builtin.«frozenset.__iter__»:=entryFor_alias (id':="frozenset.__iter__") (by kernel_rfl) rfl (by decide +kernel) (by kernel_rfl)
abbrev itO (f:Value)(i:Nat)(a:Addr)(n ep:Nat):Obj:={cls:=.type "set_iterator",data:=.fields #[f,.int i 0,.ref a,.int n 0,.int ep 0]}
section
variable {prog:Program}{w:World}{A:Around}{E:Value->Shared->Prop}{s:Shared}{I a:Addr}{i n ep:Nat}{o:Obj}{es:Array (Int×Value)}{S:Int->Bool}{m:Nat}{b:Bool}{t:SetTable}{Q:Option Value->Shared->Prop}
theorem bV {sl c:Nat}{v:Value}(d:s.heap.get? I=some (itO (.int sl 0) i a n ep))(e:s.heap.get? a=some o)(x:WkO prog w o S m b es ep t)(hn:es.size=n)
  (k:∀(j:Around) (E:Value->Shared->Prop) (f:Option (Value×Nat)->Shared->Prop),f (some (v,c)) s->wpAny (model prog w) j (setNext a sl i ep) f E s)
  (p:∀h',h'.get? I=some (itO (.int c 0) (i+1) a n ep)->Heap.SameBut I s.heap h'->Q (some v) {s with heap:=h'}):wpAny (model prog w) A (pyNext (.ref I)) Q E s:=by
 have g:s.TypeIs (.ref I) "set_iterator":=⟨_,d,rfl⟩;unfold pyNext;refine zI3 (zU4 (zQ3 (name:=Str.ofString "__next__") g yi (zP0 yi g wF ?_ (vL _))));unfold Builtin.«set_iterator.__next__»;refine zI3 (zX4 (a:=(Value.ref I,([]:List Value))) (by rfl) (zI3 (wpAny_fieldsOf d rfl ?_)));refine zI3 (zW7 e x.dt x.fit ?_);rw[hn];refine zM8 (λz=>absurd z (by simp)) (λ_=>?_);refine zI3 (k _ _ _ ?_);refine zI3 (zP6 d (by simp) λq e1 s1=>?_);refine zI3 (zP6 e1 (by simp) λh l s2=>?_);exact zI6 ⟨v,rfl,zI6 (p h l (s1.trans s2))⟩
theorem zr7 {sl:Nat}(g:A.handled=none)(c:s.heap.get? I=some (itO (.int sl 0) i a n ep))(d:s.heap.get? a=some o)(x:WkO prog w o S m b es ep t)(hn:es.size=n)
  (j:∀(h:Around) (E:Value->Shared->Prop) (e:Option (Value×Nat)->Shared->Prop),e none s->wpAny (model prog w) h (setNext a sl i ep) e E s)
  (k:∀h',Heap.ExtBut I s.heap h'->Q none {s with heap:=h'}):wpAny (model prog w) A (pyNext (.ref I)) Q E s:=by
 have f:s.TypeIs (.ref I) "set_iterator":=⟨_,c,rfl⟩;unfold pyNext;refine zI3 (zU4 (zQ3 (name:=Str.ofString "__next__") f yi (zP0 yi f wF ?_ (vL _))));unfold Builtin.«set_iterator.__next__»;refine zI3 (zX4 (a:=(Value.ref I,([]:List Value))) (by rfl) (zI3 (wpAny_fieldsOf c rfl ?_)));refine zI3 (zW7 d x.dt x.fit ?_);rw[hn];refine zM8 (λz=>absurd z (by simp)) (λ_=>?_);refine zI3 (j _ _ _ ?_);refine zI3 (zP6 c (by simp) λl e1 s1=>?_);refine zI3 ?_;simp only[newExc,newTuple];refine zI3 (zS2 ?_ (by size_fits));refine zI3 (m:=firstArgMember _ _) (zX4 (a:=Value.none) (by first|rfl|(simp only[firstArgMember];rfl)) ?_);refine zS2 ?_ (by size_fits);simp only[raiseNew];refine zI3 (wpAny_handled ?_);rw[show A.in1.handled=none from g];refine zI3 (zI6 (wpAny_throw ?_));refine zI3 (z23 (T:="StopIteration") (b:=true) ⟨_,zJ4 _ rfl,rfl⟩ isSubtype_stop ?_);exact zI6 (k _ ((s1.extBut.push _).push _))
theorem fA {tp:Addr}{ot:Obj}{places:Array Value}{c:Nat}{k:Nat}{u:Tok}{e:Int×Value}(f:s.heap.get? I=some (itO (.ref tp) i a n ep))(g:s.heap.get? tp=some ot)(h:ot.data=.seq places c)(d:s.heap.get? a=some o)(x:WkO prog w o S m b es ep t)(hn:es.size=n)
  (p:places[i]?=some (.int k u)) (he:es[k]?=some e)
  (r:∀h',h'.get? I=some (itO (.ref tp) (i+1) a n ep)->Heap.SameBut I s.heap h'->Q (some e.2) {s with heap:=h'}):wpAny (model prog w) A (pyNext (.ref I)) Q E s:=by
 have j:s.TypeIs (.ref I) "set_iterator":=⟨_,f,rfl⟩;unfold pyNext;refine zI3 (zU4 (zQ3 (name:=Str.ofString "__next__") j yi (zP0 yi j wF ?_ (vL _))));unfold Builtin.«set_iterator.__next__»;refine zI3 (zX4 (a:=(Value.ref I,([]:List Value))) (by rfl) (zI3 (wpAny_fieldsOf f rfl ?_)));refine zI3 (zW7 d x.dt x.fit ?_);rw[hn];refine zM8 (λz=>absurd z (by simp)) (λ_=>?_);refine zI3 (zR8 g h ?_);dsimp only;rw[zQ7,p];dsimp only;unfold setNextDrawn;refine zI3 (zI3 (zU2 d x.dt x.fit ?_));dsimp only;rw[zQ7,zQ7];refine zM8 (λz=>absurd z (by simp)) (λ_=>?_);rw[he];refine zI6 ?_;refine zI3 (zP6 f (by simp) λl q s2=>?_);exact zI6 ⟨e.2,rfl,zI6 (r l q s2)⟩
theorem bO {tp:Addr}{ot:Obj}{places:Array Value}{c:Nat}(k:A.handled=none)(d:s.heap.get? I=some (itO (.ref tp) i a n ep))(e:s.heap.get? tp=some ot)(g:ot.data=.seq places c)(f:s.heap.get? a=some o)(x:WkO prog w o S m b es ep t)(hn:es.size=n)
  (l:places[i]?=none) (p:∀h',Heap.ExtBut I s.heap h'->Q none {s with heap:=h'}):wpAny (model prog w) A (pyNext (.ref I)) Q E s:=by
 have h:s.TypeIs (.ref I) "set_iterator":=⟨_,d,rfl⟩;unfold pyNext;refine zI3 (zU4 (zQ3 (name:=Str.ofString "__next__") h yi (zP0 yi h wF ?_ (vL _))));unfold Builtin.«set_iterator.__next__»;refine zI3 (zX4 (a:=(Value.ref I,([]:List Value))) (by rfl) (zI3 (wpAny_fieldsOf d rfl ?_)));refine zI3 (zW7 f x.dt x.fit ?_);rw[hn];refine zM8 (λz=>absurd z (by simp)) (λ_=>?_);refine zI3 (zR8 e g ?_);dsimp only;rw[zQ7,l];refine zI3 (zP6 d (by simp) λh0 j s0=>?_);refine zI3 (zP6 j (by simp) λq e1 s1=>?_);refine zI3 ?_;simp only[newExc,newTuple];refine zI3 (zS2 ?_ (by size_fits));refine zI3 (m:=firstArgMember _ _) (zX4 (a:=Value.none) (by first|rfl|(simp only[firstArgMember];rfl)) ?_);refine zS2 ?_ (by size_fits);simp only[raiseNew];refine zI3 (wpAny_handled ?_);rw[show A.in1.handled=none from k];refine zI3 (zI6 (wpAny_throw ?_));refine zI3 (z23 (T:="StopIteration") (b:=true) ⟨_,zJ4 _ rfl,rfl⟩ isSubtype_stop ?_);exact zI6 (p _ (((s0.trans s1).extBut.push _).push _))
theorem nJ (d:s.heap.get? a=some o)(x:WkO prog w o S m b es ep t)(h:yS w=true)(hb:b=true)(l:(!t.plain&&decide (es.size > 1))=false)(hi:i<es.size)(f:Around)(E:Value->Shared->Prop)(e:Option (Value×Nat)->Shared->Prop){sl:Nat}(g:SetTable.below t.place sl=i)
  (q:∀(j:i<t.place.size),e (some (es[i].2,t.place[i]+1)) s):wpAny (model prog w) f (setNext a sl i ep) e E s:=by
 have k:w.params.followText "set-order"=false:=by simpa[yS]using h
 have hpl:t.place.size=es.size:=by
  have:=x.fit;simp only[SetTable.fits,zN3,zY1]at this;exact this.1
 unfold setNext;refine zI3 (zU2 d x.dt x.fit ?_);dsimp only;unfold setsByText;refine zI3 (zI3 (zU6 (zI6 ?_)));refine zM8 (λz=>absurd z (by show ¬(w.params.followText "set-order"=true);rw[k];decide)) (λ_=>?_);have c:t.led=true:=x.led.trans hb;refine zM8 (λz=>absurd (show(!t.plain&&decide (es.size > 1))=true from z) (by rw[l];decide)) (λ_=>?_);refine zI3 ((?_:wpAny (model prog w) f (if(!t.led&&!es.isEmpty)=true then unsupported "set:maker-not-led" else pure ()) _ E s));rw[c];refine zI6 ?_;rw[g,zR2 hi,zR2 (show i<t.place.size by lia)];exact zI6 (q (by lia))
theorem iD (d:s.heap.get? a=some o)(x:WkO prog w o S m b es ep t)(h:yS w=true)(hb:b=true)(k:(!t.plain&&decide (es.size > 1))=false)(f:Around)(E:Value->Shared->Prop)(e:Option (Value×Nat)->Shared->Prop){sl:Nat}(g:SetTable.below t.place sl=es.size)
  (q:e none s):wpAny (model prog w) f (setNext a sl i ep) e E s:=by
 have j:w.params.followText "set-order"=false:=by simpa[yS]using h
 unfold setNext;refine zI3 (zU2 d x.dt x.fit ?_);dsimp only;unfold setsByText;refine zI3 (zI3 (zU6 (zI6 ?_)));refine zM8 (λz=>absurd z (by show ¬(w.params.followText "set-order"=true);rw[j];decide)) (λ_=>?_);have c:t.led=true:=x.led.trans hb;refine zM8 (λz=>absurd (show(!t.plain&&decide (es.size > 1))=true from z) (by rw[k];decide)) (λ_=>?_);refine zI3 ((?_:wpAny (model prog w) f (if(!t.led&&!es.isEmpty)=true then unsupported "set:maker-not-led" else pure ()) _ E s));rw[c];refine zI6 ?_;rw[g,Array.getElem?_eq_none (zJ0 _)];exact zI6 q
theorem rQ (c:s.heap.get? a=some o)(x:WkO prog w o S m b es ep t)(g:yS w=false)(h:Around)(E:Value->Shared->Prop)(d:Option (Value×Nat)->Shared->Prop){sl:Nat}
  (q:d (((pickOrder (w.params.setOrder a ep) es)[i]?).map λe=>(e.2,sl)) s):wpAny (model prog w) h (setNext a sl i ep) d E s:=by
 have f:w.params.followText "set-order"=true:=by simpa[yS]using g
 unfold setNext;refine zI3 (zU2 c x.dt x.fit ?_);dsimp only;unfold setsByText;refine zI3 (zI3 (zU6 (zI6 ?_)));refine zM8 (λ_=>?_) (λz=>absurd f z);refine zM8 (λz=>absurd z (by simp)) (λ_=>?_);unfold setWalk;refine zI3 (zI3 (zU2 c x.dt x.fit ?_));dsimp only;unfold setsByText;refine zI3 (zI3 (zU6 (zI6 ?_)));refine zM8 (λ_=>?_) (λz=>absurd f z);exact zI3 (zU6 (zI6 (zI6 q)))
end
theorem oV :Slot "set_iterator" "__iter__" "set_iterator.__iter__":=
 .of (owner:="set_iterator") (n:="__iter__") (by rw[z31,zY0];kernel_rfl) (by decide +kernel) (by decide +kernel) (by decide +kernel) (by first|exact .inl (by decide +kernel)|exact .inr (by decide +kernel)) (by rw[isSubtype_type];kernel_rfl)
theorem ie :entryFor table "set_iterator.__iter__"=some Builtin.«dict_keyiterator.__iter__»:=entryFor_alias (id':="dict_keyiterator.__iter__") (by kernel_rfl) rfl (by decide +kernel) (by kernel_rfl)
theorem cK (a:Value):argsOk "set_iterator.__iter__" ⟨[a],[]⟩:=by unfold argsOk;kernel_rfl
section
variable {prog:Program}{w:World}{A:Around}{I a:Addr}{n ep:Nat}{o:Obj}{es:Array (Int×Value)}{S:Int->Bool}{m:Nat}{b:Bool}{t:SetTable}{ord:List Value}
theorem lI {E:Value->Shared->Prop}{s:Shared}{f:Value}{i:Nat}{Q:Value->Shared->Prop}(d:s.heap.get? I=some (itO f i a n ep))(q:Q (.ref I) s):wpAny (model prog w) A (pyIter (.ref I)) Q E s:=by
 have c:s.TypeIs (.ref I) "set_iterator":=⟨_,d,rfl⟩;refine wpAny_pyIter_slot c oV (zP0 oV c ie ?_ (cK _));show wpAny _ _ (ret (.ref I)) _ _ s;exact zI6 ⟨_,rfl,"set_iterator",_,c,yi.lookup,q⟩
theorem zj8 (r:A.handled=none)(hne:a≠I)(x:WkO prog w o S m b es ep t)(hn:es.size=n)(C:ord.length=n)(f:Nat->Nat)
  (y:∀(i:Nat) (s:Shared) (g:Around) (E:Value->Shared->Prop) (d:Option (Value×Nat)->Shared->Prop),s.heap.get? a=some o->(hi:i<ord.length)->d (some (ord[i],f (i+1))) s->wpAny (model prog w) g (setNext a (f i) i ep) d E s)
  (B:∀(s:Shared) (g:Around) (E:Value->Shared->Prop) (d:Option (Value×Nat)->Shared->Prop),s.heap.get? a=some o->d none s->wpAny (model prog w) g (setNext a (f n) n ep) d E s):
  Walks prog w A I [I,a] [I] n (λi v=>ord[i]?=some v) (λi h=>h.get? I=some (itO (.int (f i) 0) i a n ep)/\h.get? a=some o) where
 sub:=λc j=>by simp at j;simp[j]
 frame:=λi h h' st k=>⟨k I (by simp) _ st.1,k a (by simp) _ st.2⟩
 item:=λi s Q E hi st l=>bV st.1 st.2 x hn (λg E d q=>y i s g E d st.2 (by lia) q) λh' e sb=>by
  cases s;exact l _ h' _ (zI7 (by lia)) ⟨e,by rw[sb.2 a hne];exact st.2⟩ λc u j e=>by rw[sb.2 c λz=>j (by simp[z])];exact e
 done:=λs Q E st l=>zr7 r st.1 st.2 x hn (λg E d q=>B s g E d st.2 q) λh' e=>by
  cases s;exact l h' _ λc u j p=>e c u (λz=>j (by simp[z])) p
 self:=λi s Q E st q=>lI st.1 q
theorem zB0 {tp:Addr}{ot:Obj}{ks:List Nat}{c:Nat}(B:A.handled=none)(hne:a≠I)(l:tp≠I)(x:WkO prog w o S m b es ep t)(hn:es.size=n)(r:ks.length=n)(hk:∀k∈ks,k<n)(g:ot.data=.seq (ks.map λk=>Value.int (k:Nat) 0).toArray c):
  Walks prog w A I [I,a,tp] [I] n (λi v=>(ks.map λk=>(es.getD k (0,.none)).2)[i]?=some v) (λi h=>h.get? I=some (itO (.ref tp) i a n ep)/\h.get? a=some o/\h.get? tp=some ot) where
 sub:=λc f=>by simp at f;simp[f]
 frame:=λi h h' st k=>⟨k I (by simp) _ st.1,k a (by simp) _ st.2.1,k tp (by simp) _ st.2.2⟩
 item:=λi s Q E hi st p=>by
  have d:i<ks.length:=by lia
  have j:ks[i]<es.size:=by rw[hn];exact hk _ (zT1 d)
  refine fA (k:=ks[i]) (u:=0) (e:=es[ks[i]]) st.1 st.2.2 g st.2.1 x hn (by simp[d]) (zR2 j) λh' e sb=>?_;cases s;refine p _ h' _ ?_ ⟨e,by rw[sb.2 a hne];exact st.2.1,by rw[sb.2 tp l];exact st.2.2⟩ λc u f e=>by rw[sb.2 c λz=>f (by simp[z])];exact e
  rw[zK0,zI7 d];simp[Array.getD,j]
 done:=λs Q E st p=>bO B st.1 st.2.2 g st.2.1 x hn (by simp[r]) λh' e=>by
  cases s;exact p h' _ λc u f y=>e c u (λz=>f (by simp[z])) y
 self:=λi s Q E st q=>lI st.1 q
def iV (t:SetTable):Nat->Nat
 |0=>0
 |i+1=>t.place.getD i 0+1
def Wkd (prog:Program)(w:World)(h:Heap)(I a:Addr)(N n:Nat)(ord:List Value):Prop:=∀A:Around,A.handled=none->∃fp St,Walks prog w A I fp [I] n (λi v=>ord[i]?=some v) St/\St 0 h/\(∀c∈fp,c=a\/N<=c)/\I∈fp
theorem za9 {E:Value->Shared->Prop}{s:Shared}{Q:Value->Shared->Prop}(f:s.heap.get? a=some o)(x:WkO prog w o S m (yS w) es ep t)
  (h:∀(I:Addr) (h':Heap) d (ord:List Value),(∀c u,s.heap.get? c=some u->h'.get? c=some u)->s.heap.objs.size<=I->ord.Perm (es.toList.map (·.2))->Wkd prog w h' I a s.heap.objs.size es.size ord->Q (.ref I) {s with heap:=h',drawn:=d}):wpAny (model prog w) A (pyIter (.ref a)) Q E s:=by
 have J:s.TypeIs (.ref a) "set":=⟨_,f,x.ex.1⟩;have alt:a<s.heap.objs.size:=zJ5 f;refine wpAny_pyIter_slot J F.slot_set_iter (zP0 F.slot_set_iter J iQ ?_ (F.args_set_iter_1 _));unfold Builtin.«frozenset.__iter__»;refine zI3 (zX4 (a:=a) (by rfl) ?_);refine zI3 ?_;unfold Builtin.Frozenset.sizeOf;refine zI3 (zW7 f x.dt x.fit (zI6 ?_));refine zI3 ?_;unfold setDrawn;refine zI3 (zU2 f x.dt x.fit ?_);dsimp only;unfold setsByText;refine zI3 (zI3 (zU6 (zI6 (zI6 ?_))));have sz:es.size<=sizeLine:=z08 x.sb;refine zM8 (λhd=>?_) (λhd=>?_)
 ·refine zI3 (jc _ _ (by simp) λks d D=>?_);have M:ks.length=es.size:=by rw[D.length_eq,List.length_range]
  refine zI3 (zX8 ?_ (by rw[zI5];lia));generalize G:(s.heap.push {cls:=.type "tuple",data:=.seq (ks.map λ(i:Nat)=>rawInt i).toArray}).objs.size=I;have C:I=s.heap.objs.size+1:=by rw[<-G];exact zP8 _ _
  have K:∀c u,s.heap.get? c=some u->(s.heap.push {cls:=.type "tuple",data:=.seq (ks.map λ(i:Nat)=>rawInt i).toArray}).get? c=some u:=λc u e=>zI4 _ e;refine zI3 (wpAny_setEpoch_of (K _ _ f) x.dt x.fit ?_);refine zI3 (zS2 (zI6 ⟨_,rfl,"set_iterator",_,⟨_,zJ4 _ rfl,rfl⟩,yi.lookup,?_⟩));dsimp only;rw[G];have l:∀c u,s.heap.get? c=some u->((s.heap.push {cls:=.type "tuple",data:=.seq (ks.map λ(i:Nat)=>rawInt i).toArray}).push (itO (.ref s.heap.objs.size) 0 a es.size ep)).get? c=some u:=λc u e=>zI4 _ (K c u e);refine h I _ d (ks.map λk=>(es.getD k (0,.none)).2) l (by rw[C];exact zT5 _) ?_ (λA v=>⟨_,_,zB0 (tp:=s.heap.objs.size) v (by rw[C];exact zK2 (zP4 alt)) (by rw[C];exact zK2 (zO3 _)) x rfl M (λk hk=>z34.mp (D.mem_iff.mp hk)) rfl,⟨by rw[<-G];exact zJ4 _ rfl,l _ _ f,zI4 _ (zJ4 _ rfl)⟩,λc z=>?_,by simp⟩)
  ·have e:es.toList.map (·.2)=(List.range es.size).map λk=>(es.getD k (0,.none)).2:=by
    refine List.ext_getElem (by simp) λi H O=>?_;have:i<es.size:=by simpa using H
    simp[Array.getD,this]
   rw[e];exact D.map _
  ·simp only[zJ1,zK5,zN1]at z;rcases z with rfl|rfl|rfl
   ·rw[C];exact .inr (zT5 _)
   ·exact .inl rfl
   ·exact .inr (zJ0 _)
 ·refine zI3 (zI6 (zI3 (wpAny_setEpoch_of f x.dt x.fit ?_)));refine zI3 (zS2 (zI6 ⟨_,rfl,"set_iterator",_,⟨_,zJ4 _ rfl,rfl⟩,yi.lookup,?_⟩));have l:∀c u,s.heap.get? c=some u->(s.heap.push (itO (.int (0:Nat) 0) 0 a es.size ep)).get? c=some u:=λc u e=>zI4 _ e;have B:∀c∈[s.heap.objs.size,a],c=a\/s.heap.objs.size<=c:=λc z=>by
   simp only[zJ1,zK5,zN1]at z;rcases z with rfl|rfl
   ·exact .inr (zJ0 _)
   ·exact .inl rfl
  cases hw:yS w with
  |false=>
   have q:=h s.heap.objs.size _ s.drawn ((pickOrder (w.params.setOrder a ep) es).toList.map (·.2)) l (zJ0 _) ((vY _ _).map _) (λA v=>⟨_,_,zj8 v (zK2 alt) x rfl (by rw[zI5,(vY _ es).length_eq];simp) (λ_=>0) (λi s r E p e hi q=>rQ e x hw r E p ?_) (λs r E p e q=>rQ e x hw r E p ?_),⟨zJ4 _ rfl,l _ _ f⟩,B,by simp⟩)
   ·exact q
   ·have g:i<(pickOrder (w.params.setOrder a ep) es).size:=by simpa using hi
    rw[zR2 g];simpa using q
   ·rw[Array.getElem?_eq_none (by
     have:=(vY (w.params.setOrder a ep) es).length_eq;simp at this
     lia)]
    exact q
  |true=>
   have N:w.params.followText "set-order"=false:=by simpa[yS]using hw
   have L:¬((!w.params.followText "set-order"&&(!t.plain&&decide (es.size > 1)))=true):=hd;rw[N]at L;have j:(!t.plain&&decide (es.size > 1))=false:=by simpa using L
   have hpl:t.place.size=es.size:=by
    have:=x.fit;simp only[SetTable.fits,zN3,zY1]at this;exact this.1
   have up:Up t.place:=by
    cases hp:t.plain with
    |true=>exact x.ris hp
    |false=>
     rw[hp]at j;have:es.size<=1:=by simpa using j
     unfold Up;have H:t.place.toList.length<=1:=by simp;lia
     match P:t.place.toList,H with
     |[],_=>exact .nil
     |[y],_=>exact z07 _ _
   have st:∀i (hi:i<=es.size),SetTable.below t.place (iV t i)=i:=λi hi=>by
    cases i with
    |zero=>exact mM up
    |succ i=>
     have g:i<t.place.size:=by lia
     have e:iV t (i+1)=t.place[i]+1:=by simp[iV,Array.getD,g]
     rw[e];exact nV up g
   have q:=h s.heap.objs.size _ s.drawn (es.toList.map (·.2)) l (zJ0 _) (.refl _) (λA v=>⟨_,_,zj8 v (zK2 alt) x rfl (by simp) (iV t) (λi s r E p e hi q=>nJ e x hw hw j (by simpa using hi) r E p (st i (by simp at hi;lia)) λg=>?_) (λs r E p e q=>iD e x hw hw j r E p (st _ (zJ0 _)) q),⟨zJ4 _ rfl,l _ _ f⟩,B,by simp⟩)
   ·exact q
   ·have e:iV t (i+1)=t.place[i]+1:=by simp[iV,Array.getD,g]
    rw[e]at q;simpa using q
end
section
variable {prog:Program}{w:World}{A:Around}{E:Value->Shared->Prop}{s:Shared}{a:Addr}{ep:Nat}{o:Obj}{es:Array (Int×Value)}{S:Int->Bool}{m:Nat}{t:SetTable}
theorem fF {Q:Bool->Shared->Prop}(d:s.TypeIs (.ref a) "set")(h:Q false s):wpAny (model prog w) A (Builtin.List.listLengthHint (.ref a)) Q E s:=by
 unfold Builtin.List.listLengthHint;refine zI3 (z29 d F.slot_set_len.lookup ?_);generalize c:("set.__len__":String)=id0
 wp_delta
 rw[show splitId id0=some ("set","__len__")from by subst c;decide +kernel];subst c;refine zI3 (z23 (T:="set") (b:=true) d (by rw[isSubtype_type];kernel_rfl) ?_);refine zM8 (λq=>absurd q (by decide)) λ_=>?_;refine zM8 (λ_=>?_) λq=>absurd (by decide +kernel) q;refine zI3 (wpAny_typeOf d ?_);exact zI6 h
theorem oH {Q:List Value->Shared->Prop}(V:A.handled=none)(f:s.heap.get? a=some o)(x:WkO prog w o S m (yS w) es ep t)
  (h:∀(h':Heap) d (tk:Nat) (ord:List Value),s.heap.objs.size<h'.objs.size->(∀c u,s.heap.get? c=some u->h'.get? c=some u)->ord.Perm (es.toList.map (·.2))->Q ord {s with heap:=h',drawn:=d,toks:=tk}):wpAny (model prog w) A (collect (.ref a)) Q E s:=by
 have alt:a<s.heap.objs.size:=zJ5 f;unfold collect;refine zI3 (wpAny_runValue (zT7 F.entry_proto_collect ?_));rw[zR9 F.plain_proto_collect _];show wpAny _ A.in1 (newList [] >>= λl=>again (.builtin "list.__iadd__" ⟨[l,.ref a],[]⟩)) _ _ s;refine zI3 (zS2 ?_);refine zI6 ⟨zW9 F.plain_list_iadd _,zT7 F.entry_list_iadd ?_⟩;rw[zR9 F.plain_list_iadd _];show wpAny _ A.in1 (Builtin.List.listExtendWith (.ref s.heap.objs.size) (.ref a) (.ref s.heap.objs.size)) _ _ _;generalize k:s.heap.objs.size=L;have r:∀c u,s.heap.get? c=some u->(s.heap.push {cls:=.type "list",data:=.seq ([]:List Value).toArray}).get? c=some u:=λc u e=>zI4 _ e;have B:(s.heap.push {cls:=.type "list",data:=.seq ([]:List Value).toArray}).get? L=some {cls:=.type "list",data:=.seq ([]:List Value).toArray}:=by rw[<-k];exact zJ4 _ rfl
 have j:(s.heap.push {cls:=.type "list",data:=.seq ([]:List Value).toArray}).objs.size=L+1:=by rw[<-k];exact zP8 _ _
 generalize Z:s.heap.push {cls:=.type "list",data:=.seq ([]:List Value).toArray}=D at r B j;have O:a≠L:=by rw[<-k];exact zK2 alt
 unfold Builtin.List.listExtendWith;refine zI3 (wpAny_typeOf (T:="set") ⟨_,r _ _ f,x.ex.1⟩ ?_);have Y:Builtin.List.listSameRef (.ref L) (.ref a)=false:=by simp[Builtin.List.listSameRef,zN4 O]
 refine zM8 (λz=>absurd z (by rw[Y];decide)) λ_=>?_;refine zI3 (za9 (r _ _ f) x λI M d ord K X pm wk=>?_);refine zI3 (zN7 (fF ⟨_,K _ _ (r _ _ f),x.ex.1⟩ ?_));refine zM8 (λ_=>?_) λq=>absurd (by decide +kernel) q;refine zI3 (zR7 ?_);refine zI3 ?_;show wpAny _ A.in1 (updateSeq L (·.push .none) >>= λ_=>updateSeq L (·.pop)) _ _ _;have p:=K _ _ B;refine zI3 (zV2 p rfl ?_);have C:=zV0 (Obj.mapSeq (·.push Value.none)) p rfl;refine zV2 C rfl ?_;have J:=zV0 (Obj.mapSeq (·.pop)) C rfl;have y:∀c u,c≠L->M.get? c=some u->((M.update L (Obj.mapSeq (·.push Value.none))).update L (Obj.mapSeq (·.pop))).get? c=some u:=λc u H e=>(zN5 _ _ (zN4 H)).trans ((zN5 _ _ (zN4 H)).trans e);obtain⟨fp,St,W,U,wf,wI⟩:=wk A.in1 (by simp[V]);have v:L∉fp:=λz=>by
  rcases wf L z with e|e
  ·exact O e.symm
  ·have N:D.objs.size<=L:=e;rw[j]at N;exact absurd N (Nat.not_succ_le_self _)
 refine zI6 ⟨zW9 F.plain_extend_loop _,codeAny_extend_loopS W.toS (z08 x.sb) _ v _ es.size 0 _ _ _ rfl (zJ8 _) (W.frame 0 _ _ U λc H u e=>y c u (λz=>v (z▸H)) e) J (ItemsOf.nil _) λs' acc c' hm n b=>?_⟩;show wpAny _ A (load L >>= _) _ _ s';refine zI3 (wpAny_load n ?_);have lo:ord.length=es.size:=by rw[pm.length_eq];simp
 have P:acc.toList=ord:=by
  refine List.ext_getElem? λi=>?_;rcases zN2 i es.size with hi|hi
  ·have D:i<acc.size:=by rw[b.1];exact hi
   have:=b.2 i acc[i] (zR2 D);rw[this];simp[D]
  ·rw[zT3 (by simp[b.1];exact hi),zT3 (by lia)]
 have cl:∀{c:Addr} {u:Obj},s.heap.get? c=some u->c<L:=λe=>by rw[<-k];exact zJ5 e
 have q:=h s'.heap s'.drawn s'.toks ord (by rw[k];exact zJ5 n) (λc u e=>hm.heap c u (λz=>?_) (y c u (zK2 (cl e)) (K _ _ (r _ _ e)))) pm
 ·refine zI6 ?_;show Q acc.toList s';rw[P];obtain⟨hp,g,dr,tk,os⟩:=s';have eg:g=s.gens:=hm.gens;have R:os=s.os:=hm.os;subst eg R;exact q
 ·simp only[zJ1,zK5,zN1]at z;rcases z with z|z
  ·exact zK2 (cl e) z
  ·have G:D.objs.size<=I:=X;rw[j]at G;have:=cl e;rw[z]at this;exact absurd (zI9 (zP4 this) G) (zO2 _)
theorem oN :∀{F ms:List Int},F.Nodup->(∀k∈F,k∈ms)->ms.length=F.length->ms.Perm F
 |[],ms,_,_,e=>by rw[zW8.mp e]
 |k::F,ms,nd,sb,e=>by
  have hk:=sb k zJ6;have p1:=List.perm_cons_erase hk;obtain⟨n1,n2⟩:=zZ4.mp nd;have p2:=oN (ms:=ms.erase k) n2 (λj b=>(List.mem_erase_of_ne (λz:j=k=>n1 (z▸b))).mpr (sb j (zJ2 _ b))) (by
   have:=p1.length_eq;simp only[zM0]at this e
   lia)
  exact p1.trans (p2.cons k)
theorem wV (val:Nat->Int):∀n,(firstMet val n).Nodup
 |0=>.nil
 |n+1=>by
  rw[firstMet_succ];unfold step_dedup;split
  ·exact wV val n
  ·rename_i h;rw[List.nodup_append];refine⟨wV val n,by simp,λx b y hy e=>?_⟩;rw[zK3.mp hy]at e;exact h (List.any_eq_true.mpr ⟨x,b,by simp[e]⟩)
theorem kr :∀(l:List (Int×Value)),(∀e∈l,∃k,(intKind prog w).is k e.2=true)->∃ms:List Int,IntsAre (l.map (·.2)) ms/\∀k,k∈ms↔∃e∈l,(intKind prog w).is k e.2=true
 |[],_=>⟨[],.nil,λk=>by simp⟩
 |e::l,h=>by
  obtain⟨ms,c,d⟩:=kr l λx b=>h x (zJ2 _ b);obtain⟨k,hk⟩:=h e zJ6;obtain⟨t,f⟩:=Value.isInt_shape hk;refine⟨k::ms,?_,λj=>?_⟩
  ·rw[zM9,f];exact .cons k t c
  ·rw[zJ1,d]
   constructor
   ·rintro(rfl|⟨x,b,q⟩)
    ·exact⟨e,zJ6,hk⟩
    ·exact⟨x,zJ2 _ b,q⟩
   ·rintro⟨x,b,q⟩;rcases zJ1.mp b with rfl|b
    ·exact .inl ((intKind prog w).inj _ _ _ q hk)
    ·exact .inr ⟨x,b,q⟩
theorem jw :∀{vs us:List Value}{ms:List Int},us.Perm vs->IntsAre vs ms->∃ns,IntsAre us ns/\ns.Perm ms:=by
 intro vs us ms p
 induction p generalizing ms with
 |nil=>intro h;exact⟨ms,h,.refl _⟩
 |cons x p j=>
  intro h;cases h with
  |cons k t h=>
   obtain⟨ns,c,d⟩:=j h;exact⟨k::ns,.cons k t c,d.cons k⟩
 |swap x y l=>
  intro h;cases h with
  |cons k t h=>
   cases h with
   |cons e t' h=>exact⟨e::k::_,.cons e t' (.cons k t h),.swap k e _⟩
 |trans p1 p2 g b=>
  intro h;obtain⟨ns,c,d⟩:=b h;obtain⟨f,i,n⟩:=g c;exact⟨f,i,n.trans d⟩
end
end SetW
namespace L2
open PySem PySem.Spec PyProof.Rows SetW
section
variable {X:Cx}{α:Ev}{e:Expr}{pos p p2 pos2:Pos}
abbrev wX (zs:List Int):List Int:=firstMet (λi=>zs.getD i 0) zs.length
theorem Inv.drw {pins:List (Addr×Obj)}{σ:List (Option V)}{H:Hp}{s:Shared}(I:Inv X pins σ H s)(d:Drawn):Inv X pins σ H {s with drawn:=d}:=⟨I.ok,I.os,I.bare,I.base,I.loc,I.cell,I.free,I.freeC,I.pin,I.hok,I.len⟩
def SW (P:Program)(w:World)(o:Obj)(zs:List Int):Prop:=∃es ep t,WkO P w o (λk=>(wX zs).any (· == k)) (wX zs).length (yS w) es ep t
theorem iA (m:X.calm=true):xx X (.type "set") (λxs H Q=>∃(l:Addr) (zs:List Int),xs=[.ref l]/\H l=some (.lst (zs.map V.int))/\zs.length<1000/\∀(a:Addr) (o:Obj),H a=none->SW X.prog X.w o zs->Q (.ref a) (upd H a (.frz o (.set (λk=>(wX zs).any (· == k)) (wX zs).length)))):=by
 intro pins s σ H xs us Q I r h;obtain⟨l,zs,rfl,i,j,q⟩:=h;obtain⟨u,rfl,g⟩:=vals1 r;cases g;obtain⟨its,f,pl,hz⟩:=I.list (SqL.of i);have l1:=f.length;rw[zI5]at l1;have sz:its.toArray.size=zs.length:=by simp[l1]
 refine zu1 (its:=its.toArray) (ns:=zs) (I.ok.hd m) pl.isList (by simpa using intsAre_of f) (by rw[sz];unfold scanBound;lia) λh' tk d hk=>?_;rw[sz]at d;obtain⟨o,es,ep,t,c,x⟩:=d;exact⟨.ref s.heap.objs.size,_,I.laid (o:=.frz o (.set _ _)) (t':=tk) (λb u e=>hk b u (zJ5 e) e) (zJ0 _) ⟨c,o,es,ep,t,c,x.ex,x.dt,x.el,x.mem,x.sb,x.fit,x.sz⟩,rfl,q _ o (I.hok.fresh (zJ0 _)) ⟨es,ep,t,x⟩⟩
theorem bW {zs:List Int}{k:Int}:k∈wX zs↔k∈zs:=by
 have a:k∈wX zs↔(wX zs).any (· == k)=true:=by simp
 rw[a,firstMet_any];simp only[List.any_eq_true,zX9,z34,zY1]
 constructor
 ·rintro⟨x,⟨i,hi,rfl⟩,rfl⟩;rw[zJ7,zI7 hi];exact zT1 hi
 ·intro hk;obtain⟨i,hi,e⟩:=zZ2 hk;exact⟨k,⟨i,hi,by rw[zJ7,zI7 hi];exact e⟩,rfl⟩
end
def Itk (a:List (Str×V)):It:=⟨λi _=>i<a.length,λi H x H'=>H'=H/\∃p,a[i]?=some p/\x=.str p.1,λi _=>a.length<=i⟩
def sT (K:PySem.W.Frag)(w:World)(d:Addr)(a:List (Str×V))(n:Nat):Prop:=∃es,K.lookup d=some ⟨.type "dict",none,.dict es n,#[]⟩/\EnS w es.toList a/\(a.map (·.1)).Nodup
section
variable {X:Cx}{tg:Expr}
theorem sT.at {K:PySem.W.Frag}{P:Program}{w:World}{d:Addr}{b:List (Str×V)}{n:Nat}(hd:sT K w d b n){h:Heap}(k:K.In h):∃kvs:List (Str×Value),h.DictAt (PySem.strKind P w) d kvs n/\kvs.map (·.1)=b.map (·.1):=by
 obtain⟨es,c,he,hn⟩:=hd;exact⟨_,⟨_,es,k _ _ c,⟨rfl,rfl,rfl⟩,rfl,λe a=>oB he e (by simpa using a),rK he,by rw[qF he];exact hn⟩,qF he⟩
theorem mE {P:Program}{w:World}{K:PySem.W.Frag}{d:Addr}{a:List (Str×V)}{n:Nat}(hd:sT K w d a n)(it:Addr):Turn P w K tg (Itk a) [it] it (λi h=>h.IsKeyIter it d i a.length n) where
 mem:=by simp
 obj:=λi h st b hb=>by
  have e:b=it:=by simpa using hb
  subst e;obtain⟨o,e,c,q⟩:=st;exact⟨o,e,λv z=>by rw[q]at z;cases z⟩
 keep:=λi h h' st k=>by
  obtain⟨o,e,r⟩:=st;exact⟨o,k it (by simp) o e,r⟩
 item:=by
  intro X m hw B C i pins s σ H E I hf st hg;subst m hw B;obtain⟨kvs,A,l⟩:=hd.at (P:=X.prog) I.kIn;have j:kvs.length=a.length:=by have:=congrArg List.length l;simpa using this
  have hi:i<a.length:=hg;have f:i<kvs.length:=by lia
  obtain⟨f0,f1,f2,p,f4,u⟩:=hf it (by simp);rw[<-j]at st;refine wpAny_pyNext_dict_item st A (k:=kvs[i].1) (v:=kvs[i].2) (zI7 f) λkey h' hk st' sb=>?_;have J:Inv X pins σ H {s with heap:=h'}:=I.turned (t':=s.toks) (λb o hb e=>(sb.2 b hb).trans e) f0 f1 p f4 u;obtain⟨o,e,c,q⟩:=id st';rw[j]at st';have G:kvs[i].1=a[i].1:=by
   have D:(kvs.map (·.1))[i]?=(a.map (·.1))[i]?:=by rw[l]
   rw[zK0,zK0,zI7 f,zI7 hi]at D;simpa using D
  have g:∃t,key=.str a[i].1 t:=by
   rw[G]at hk;cases key with
   |str x t=>
    have y:(x == a[i].1)=true:=by simpa[PySem.strKind,Value.isStrOf]using hk
    exact⟨t,by rw[eq_of_beq y]⟩
   |_=>simp[PySem.strKind,Value.isStrOf]at hk
  obtain⟨t,rfl⟩:=g;exact⟨_,rfl,kZ (s:={s with heap:=h'}) e c q (by decide) ⟨.str a[i].1,H,J,⟨t,rfl⟩,⟨rfl,_,zI7 hi,rfl⟩,st',λb hb=>(hf b hb).1⟩⟩
 done:=by
  intro X m hw B C i pins s σ H E I hf st hg;subst m hw B;obtain⟨kvs,A,l⟩:=hd.at (P:=X.prog) I.kIn;have j:kvs.length=a.length:=by have:=congrArg List.length l;simpa using this
  have hi:a.length<=i:=hg;obtain⟨f0,f1,f2,p,f4,u⟩:=hf it (by simp);rw[<-j]at st;exact wpAny_pyNext_dict_end (I.ok.hd C) st A (zT3 (by lia)) λh' F=>⟨rfl,I.turned (t':=s.toks) (λb o hb e=>F b o hb e) f0 f1 p f4 u⟩
 self:=λ_ _ _ _ _ st h=>wpAny_pyIter_keyiter st h
theorem cP {g:Str}{p:Pos}{d:Addr}{a:List (Str×V)}{n:Nat}(hg:Gl X g)(hm:X.mg g=some (.ref d))(hd:sT X.K X.w d a n)(j:(d == sysModules)=false)(hb:(g == ("__debug__":Str))=false:=by decide):PI X tg (.Name g p) (λ_ H R=>R (Itk a) H):=by
 intro pins s σ H R I h;refine vK I hg hm ?_ hb;obtain⟨kvs,c,i⟩:=hd.at (P:=X.prog) I.kIn;have f:kvs.length=a.length:=by have:=congrArg List.length i;simpa using this
 refine wpAny_pyIter_dict j c ?_;rw[f];refine⟨s.heap.objs.size,[s.heap.objs.size],_,_,H,rfl,I.kept (t':=s.toks) λb o e=>zI4 _ e,mE hd _,⟨_,zJ4 _ rfl,rfl,rfl⟩,λb hb=>?_,h⟩;rw[zK3.mp hb];exact I.fpOk (zJ0 _) (I.hok.fresh (zJ0 _))
theorem dP {α:Ev}{g:Str}{p:Pos}{d:Addr}{b:List (Str×V)}{n:Nat}{Q:List PyData->Prop}(hg:Gl X g)(hm:X.mg g=some (.ref d))(hd:sT X.K X.w d b n)(f:(d == sysModules)=false)(q:Q (b.map λp=>.str p.1))(hb:(g == ("__debug__":Str))=false:=by decide):EvI X α tg (.Name g p) Q:=λF σ H R m k=>by
 refine⟨_,cP hg hm hd f hb,?_⟩;refine k _ _ H q m.tp Kz.refl λi l p s=>⟨λd hd=>?_,λc=>?_⟩
 ·rw[zK0,zL5]at hd;obtain⟨e,he,rfl⟩:=hd;refine⟨(zI8.mp he).1,λh o y=>?_⟩;obtain⟨rfl,j,a,rfl⟩:=y;rw[he]at a;cases a;exact⟨zv.refl _,λ_=>.str _⟩
 ·have:b.length<=i:=by simpa using c
  exact this
end
section
variable {X:Cx}{α:Ev}{e1 e2 e3 e4 e5 b:Expr}{pos p p1 p2 p3 p4 p5:Pos}{n1 n2 n3 n4 n5:Nat}{k1 k2 k3 k4 k5:Str}{Q:PyData->Prop}
end
end L2
namespace Tim
open PySem PyProof.Rows
def gal :Bool->Keyed->Array Keyed->Nat->Nat->Nat->StateT SortSt Sem (Option Nat):=sortPriv% PySem.Builtin.gallop
abbrev bey (left:Bool)(key:Keyed)(arr:Array Keyed)(base i:Nat):StateT SortSt Sem (Option Bool):=do
 let x <-elem' arr (base+i)
 if left then lt' x key else return (<-lt' key x).map (!·)
structure GB (a₀:Array Keyed)(st:SortSt):Prop where
 perm:(arrOf st).Perm a₀
 kind:kindOf st=oneType'
 failed:failedOf st=none
section
variable {prog:Program}{w:World}{A:Around}{E:Value->Shared->Prop}{s:Shared}
theorem kK {st:SortSt}{x y:Keyed}{a b:Int}{t u:Tok}{Q:Option Bool->SortSt->Prop}(hk:kindOf st=oneType')(c:x.1=.int a t)(hy:y.1=.int b u)(h:Q (some (decide (a<b))) st):wpS (model prog w) A E s (lt' x y) Q st:=by
 rw[lt'_eq];refine zJ3 (wpS_get ?_);rw[hk,keyLt'_oneType,c,hy];exact zJ3 (wpS_lift (zU4 (oneLt_int ⟨rfl,zJ9 h⟩)))
theorem zD {st:SortSt}{xs:Array Keyed}{i:Nat}{p:Keyed}{Q:Keyed->SortSt->Prop}(h:xs[i]?=some p)(q:Q p st):wpS (model prog w) A E s (elem' xs i) Q st:=by
 rw[elem'_eq,h];exact zJ9 q
theorem yn {xs:Array Keyed}(h:IntKeys xs){i:Nat}(hi:i<xs.size):∃t,xs[i].1=.int (K xs i) t:=by
 obtain⟨n,t,e⟩:=h xs[i] (by simp);refine⟨t,?_⟩;have:K xs i=n:=by
  unfold K;rw[zM6 xs i hi];show numOf xs[i].1=n;rw[e];rfl
 rw[e,this]
def tw (left:Bool)(key:Int)(arr:Array Keyed)(base i:Nat):Bool:=if left then decide (K arr (base+i)<key)else !decide (key<K arr (base+i))
theorem zn7 {st:SortSt}{left:Bool}{key:Keyed}{kz:Int}{kt:Tok}{arr:Array Keyed}{base i:Nat}{Q:Option Bool->SortSt->Prop}(hk:kindOf st=oneType')(a:key.1=.int kz kt)(ia:IntKeys arr)(hi:base+i<arr.size)(h:Q (some (tw left kz arr base i)) st):
  wpS (model prog w) A E s (bey left key arr base i) Q st:=by
 obtain⟨t,e⟩:=yn ia hi;refine zJ3 (zD (zM6 arr _ hi) ?_);cases left with
 |true=>exact kK hk e a h
 |false=>exact zJ3 (kK hk a e (zJ9 h))
structure Cut (p:Nat->Bool)(n r:Nat):Prop where
 le:r<=n
 lo:∀i,i<r->p i=true
 hi:∀i,r<=i->i<n->p i=false
abbrev TS :=Option (Option Nat)×Nat×Nat
theorem rJ {st:SortSt}{p:Nat->Bool}{b:Nat->StateT SortSt Sem (Option Bool)}{n:Nat}{Q:Option Nat->SortSt->Prop}(B:∀{i:Nat}{Q:Option Bool->SortSt->Prop},i<n->Q (some (p i)) st->wpS (model prog w) A E s (b i) Q st)(mono:∀i j,i<=j->j<n->p j=true->p i=true)(h:∀r,Cut p n r->Q (some r) st)
  {f:Nat->TS->StateT SortSt Sem (ForInStep TS)} {F:TS->StateT SortSt Sem (Option Nat)} (f1:∀x lo hi,lo≥hi->f x (none,lo,hi)=pure (.done (none,lo,hi)))
  (f2:∀x lo hi,¬lo≥hi->∃g,f x (none,lo,hi)=b (lo+(hi-lo) / 2) >>= g/\g (some true)=pure (.yield (none,lo+(hi-lo) / 2+1,hi))/\g (some false)=pure (.yield (none,lo,lo+(hi-lo) / 2))) (hF:∀r,F (none,r,r)=pure (some r))
  {lo hi:Nat} (m:lo<=hi) (a:hi<=n) (d:∀i,i<lo->p i=true) (k:∀i,hi<=i->i<n->p i=false):wpS (model prog w) A E s (forIn [0:n] ((none,lo,hi):TS) f >>= F) Q st:=by
 refine zJ3 (zT8 (zP1 (I:=λx c st'=>st'=st/\∃lo hi,c=(none,lo,hi)/\lo<=hi/\hi<=n/\hi-lo<=n-x/\(∀i,i<lo->p i=true)/\∀i,hi<=i->i<n->p i=false)
  (Q:=λc st'=>st'=st/\∃r,c=(none,r,r)/\Cut p n r) ?_ ?_ ⟨rfl,lo,hi,rfl,m,a,by lia,d,k⟩) ?_)
 ·rintro x c st' _ v ⟨rfl,lo,hi,rfl,m,a,t,d,k⟩;by_cases l:lo≥hi
  ·rw[f1 x lo hi l];have e:lo=hi:=by lia
   subst e;exact zJ9 ⟨rfl,lo,rfl,a,d,k⟩
  ·obtain⟨g,e,g1,g2⟩:=f2 x lo hi l;rw[e];refine zJ3 (B (by lia) ?_);cases z:p (lo+(hi-lo) / 2)with
   |true=>
    rw[g1];exact zJ9 ⟨rfl,_,_,rfl,by lia,a,by lia,λi u=>mono i _ (by lia) (by lia) z,k⟩
   |false=>
    rw[g2];refine zJ9 ⟨rfl,_,_,rfl,by lia,by lia,by lia,d,λi o q=>?_⟩;cases y:p i with
    |false=>rfl
    |true=>rw[mono _ i o q y]at z;cases z
 ·rintro c st' ⟨rfl,lo,hi,rfl,m,a,t,d,k⟩;have e:lo=hi:=by lia
  subst e;exact⟨rfl,lo,rfl,a,d,k⟩
 ·rintro c st' ⟨rfl,r,rfl,ct⟩;rw[hF];exact zJ9 (h r ct)
theorem uf {st:SortSt}{left:Bool}{key:Keyed}{kz:Int}{kt:Tok}{arr:Array Keyed}{base n hint:Nat}{Q:Option Nat->SortSt->Prop}(hk:kindOf st=oneType')(k:key.1=.int kz kt)(ia:IntKeys arr)(hb:base+n<=arr.size)(hn:hint<n)
  (mono:∀i j,i<=j->j<n->tw left kz arr base j=true->tw left kz arr base i=true) (h:∀r,Cut (tw left kz arr base) n r->Q (some r) st):wpS (model prog w) A E s (gal left key arr base n hint) Q st:=by
 generalize u:tw left kz arr base=p at mono h;have B:∀{i:Nat} {Q:Option Bool->SortSt->Prop},i<n->Q (some (p i)) st->wpS (model prog w) A E s (bey left key arr base i) Q st:=λ{i Q} hi q=>zn7 hk k ia (by lia) (by rw[u];exact q);refine zJ3 (B hn ?_);dsimp only;cases z0:p hint with
 |true=>
  rw[if_pos rfl];refine zJ3 (zT8 (zP1 (I:=λx c st'=>st'=st/\∃a of,c=(none,a,of)/\a<of/\x+1<=of/\hint+a<n/\p (hint+a)=true)
   (Q:=λc st'=>st'=st/\∃a of,c=(none,a,of)/\a<of/\hint+a<n/\p (hint+a)=true/\(of≥n-hint\/p (hint+of)=false)) ?_ ?_ ⟨rfl,0,1,rfl,by lia,by lia,by lia,z0⟩) ?_)
  ·rintro x c st' _ t ⟨rfl,a,of,rfl,f,l,e,d⟩;dsimp only;by_cases b:of≥n-hint
   ·rw[if_pos b];exact zJ9 ⟨rfl,a,of,rfl,f,e,d,.inl b⟩
   ·rw[if_neg b];refine zJ3 (B (by lia) ?_);cases z:p (hint+of)with
    |true=>exact zJ9 ⟨rfl,of,2*of+1,rfl,by lia,by lia,by lia,z⟩
    |false=>exact zJ9 ⟨rfl,a,of,rfl,f,e,d,.inr z⟩
  ·rintro c st' ⟨rfl,a,of,rfl,f,l,e,d⟩;exact⟨rfl,a,of,rfl,f,e,d,.inl (by lia)⟩
  ·rintro c st' ⟨rfl,a,of,rfl,f,e,d,g⟩;refine rJ B mono h (λx lo hi z=>if_pos z) (λx lo hi z=>⟨_,if_neg z,rfl,rfl⟩) (λ_=>rfl) (lo:=hint+a+1) (hi:=hint+min of (n-hint)) (by lia) (by lia) (λi hi=>mono i _ (by lia) e d) (λi o m=>?_);rcases g with g|g
   ·lia
   ·cases y:p i with
    |false=>rfl
    |true=>rw[mono _ i (by lia) m y]at g;cases g
 |false=>
  rw[if_neg (by decide)];refine zJ3 (zT8 (zP1 (I:=λx c st'=>st'=st/\∃a of,c=(none,a,of)/\a<of/\x+1<=of/\a<=hint/\p (hint-a)=false)
   (Q:=λc st'=>st'=st/\∃a of,c=(none,a,of)/\a<of/\a<=hint/\p (hint-a)=false/\(of≥hint+1\/p (hint-of)=true)) ?_ ?_ ⟨rfl,0,1,rfl,by lia,by lia,by lia,z0⟩) ?_)
  ·rintro x c st' _ t ⟨rfl,a,of,rfl,f,l,e,d⟩;dsimp only;by_cases b:of≥hint+1
   ·rw[if_pos b];exact zJ9 ⟨rfl,a,of,rfl,f,e,d,.inl b⟩
   ·rw[if_neg b];refine zJ3 (B (by lia) ?_);cases z:p (hint-of)with
    |true=>exact zJ9 ⟨rfl,a,of,rfl,f,e,d,.inr z⟩
    |false=>exact zJ9 ⟨rfl,of,2*of+1,rfl,by lia,by lia,by lia,z⟩
  ·rintro c st' ⟨rfl,a,of,rfl,f,l,e,d⟩;exact⟨rfl,a,of,rfl,f,e,d,.inl (by lia)⟩
  ·rintro c st' ⟨rfl,a,of,rfl,f,e,d,g⟩;refine rJ B mono h (λx lo hi z=>if_pos z) (λx lo hi z=>⟨_,if_neg z,rfl,rfl⟩) (λ_=>rfl) (lo:=hint+1-min of (hint+1)) (hi:=hint-a) (by lia) (by lia) (λi hi=>?_) (λi o m=>?_)
   ·rcases g with g|g
    ·lia
    ·exact mono i _ (by lia) (by lia) g
   ·cases y:p i with
    |false=>rfl
    |true=>rw[mono _ i (by lia) m y]at d;cases d
end
def mlo :Array Keyed->Array Keyed->StateT SortSt Sem (Array Keyed):=sortPriv% PySem.Builtin.mergeLo
abbrev ky (p:Keyed):Int:=numOf p.1
abbrev Up (l:List Keyed):Prop:=l.Pairwise λx y=>ky x<=ky y
structure Good (a b r:List Keyed):Prop where
 pm:r.Perm (a++b)
 up:Up r
structure MI (a b L:List Keyed)(i j:Nat):Prop where
 ia:i<=a.length
 jb:j<=b.length
 pm:L.Perm (a.take i++b.take j)
 up:Up L
 le:∀x∈L,∀y∈a.drop i++b.drop j,ky x<=ky y
section
variable {a b L:List Keyed}{i j k:Nat}
theorem MI.doneB (h:MI a b L i j)(d:Up a)(e:j=b.length):Good a b (L++a.drop i++b.drop j):=by
 subst e;have e1:b.drop b.length=[]:=zR6;rw[e1,zO1];have pm:=h.pm;rw[zO4]at pm;refine⟨?_,zM3.mpr ⟨h.up,d.sublist (zU1 _ _),λx c y hy=>h.le x c y (zL1 _ hy)⟩⟩;refine(pm.append_right _).trans ?_;have:(a.take i++b++a.drop i).Perm (a.take i++a.drop i++b):=by
  rw[zK8,zK8];exact zN8 _ zR4
 rwa [zL6]at this
theorem MI.doneA (h:MI a b L i j)(d:Up b)(e:i=a.length):Good a b (L++a.drop i++b.drop j):=by
 subst e;have e1:a.drop a.length=[]:=zR6;rw[e1,zO1];have pm:=h.pm;rw[zO4]at pm;refine⟨?_,zM3.mpr ⟨h.up,d.sublist (zU1 _ _),λx c y hy=>h.le x c y (zK4 _ hy)⟩⟩;refine(pm.append_right _).trans ?_;rw[zK8,zL6]
theorem MI.last (h:MI a b L i j)(f:Up b)(e:i+1=a.length)(d:∀y∈b,∀x∈a.drop i,ky y<=ky x):Good a b (L++b.drop j++a.drop i):=by
 have ha:a.drop i=[a[i]]:=by rw[zM4 (by lia),z21 (by lia)]
 refine⟨?_,?_⟩
 ·refine((h.pm.append_right _).append_right _).trans ?_;have:(a.take i++b.take j++b.drop j++a.drop i).Perm (a.take i++a.drop i++b):=by
   rw[zK8 (a.take i) (b.take j),zL6,zK8,zK8];exact zN8 _ zR4
  rwa [zL6]at this
 ·refine zM3.mpr ⟨zM3.mpr ⟨h.up,f.sublist (zU1 _ _),λx c y hy=>h.le x c y (zK4 _ hy)⟩,by rw[ha];exact z07 _ _,λx c y hy=>?_⟩;rcases zK6.mp c with c|c
  ·exact h.le x c y (zL1 _ hy)
  ·exact d x (zQ4 c) y hy
theorem MI.appA (h:MI a b L i j)(g:Up a)(hk:i+k<=a.length)(f:∀x∈(a.drop i).take k,∀y∈b.drop j,ky x<=ky y):MI a b (L++(a.drop i).take k) (i+k) j:=by
 have sp:a.drop i=(a.drop i).take k++a.drop (i+k):=by rw[<-List.drop_drop,zL6]
 have d:Up (a.drop i):=g.sublist (zU1 _ _);rw[sp]at d;obtain⟨e,m,l⟩:=zM3.mp d;refine⟨hk,h.jb,?_,zM3.mpr ⟨h.up,e,λx c y hy=>h.le x c y (zL1 _ (zS0 hy))⟩,λx c y hy=>?_⟩
 ·refine(h.pm.append_right _).trans ?_;have:a.take (i+k)=a.take i++(a.drop i).take k:=by rw[List.take_add]
  rw[this,zK8,zK8];exact zN8 _ zR4
 ·rcases zK6.mp c with c|c
  ·refine h.le x c y ?_;rcases zK6.mp hy with hy|hy
   ·rw[sp];exact zL1 _ (zK4 _ hy)
   ·exact zK4 _ hy
  ·rcases zK6.mp hy with hy|hy
   ·exact l x c y hy
   ·exact f x c y hy
theorem MI.appB (h:MI a b L i j)(l:Up b)(hk:j+k<=b.length)(f:∀x∈(b.drop j).take k,∀y∈a.drop i,ky x<=ky y):MI a b (L++(b.drop j).take k) i (j+k):=by
 have sp:b.drop j=(b.drop j).take k++b.drop (j+k):=by rw[<-List.drop_drop,zL6]
 have d:Up (b.drop j):=l.sublist (zU1 _ _);rw[sp]at d;obtain⟨e,m,g⟩:=zM3.mp d;refine⟨h.ia,hk,?_,zM3.mpr ⟨h.up,e,λx c y hy=>h.le x c y (zK4 _ (zS0 hy))⟩,λx c y hy=>?_⟩
 ·refine(h.pm.append_right _).trans ?_;have:b.take (j+k)=b.take j++(b.drop j).take k:=by rw[List.take_add]
  rw[this,zK8]
 ·rcases zK6.mp c with c|c
  ·refine h.le x c y ?_;rcases zK6.mp hy with hy|hy
   ·exact zL1 _ hy
   ·rw[sp];exact zK4 _ (zK4 _ hy)
  ·rcases zK6.mp hy with hy|hy
   ·exact f x c y hy
   ·exact g x c y hy
theorem take1 (l:List Keyed){i:Nat}(h:i<l.length):(l.drop i).take 1=[l[i]]:=by rw[zM4 h];rfl
end
abbrev MA (a b out:Array Keyed)(i j:Nat):Prop:=MI a.toList b.toList out.toList i j
section
variable {a b out:Array Keyed}{i j k:Nat}
theorem wL (a:Array Keyed)(i:Nat):(a.extract i).toList=a.toList.drop i:=by rw[zY5,zV8,List.take_of_length_le (by simp)]
theorem fV (a:Array Keyed)(i k:Nat):(a.extract i (i+k)).toList=(a.toList.drop i).take k:=by rw[zY5,zV8,Nat.add_sub_cancel_left]
theorem MA.extA (h:MA a b out i j)(d:Up a.toList)(hk:i+k<=a.size)(c:∀x∈(a.toList.drop i).take k,∀y∈b.toList.drop j,ky x<=ky y):MA a b (out++a.extract i (i+k)) (i+k) j:=by
 have:=h.appA d (by simpa using hk) c;unfold MA
 rwa [zM2,fV]
theorem MA.extB (h:MA a b out i j)(d:Up b.toList)(hk:j+k<=b.size)(c:∀x∈(b.toList.drop j).take k,∀y∈a.toList.drop i,ky x<=ky y):MA a b (out++b.extract j (j+k)) i (j+k):=by
 have:=h.appB d (by simpa using hk) c;unfold MA
 rwa [zM2,fV]
theorem MA.pushA (h:MA a b out i j)(f:Up a.toList)(hi:i<a.size)(d:∀y∈b.toList.drop j,ky a[i]<=ky y):MA a b (out.push a[i]) (i+1) j:=by
 have e:(a.toList.drop i).take 1=[a[i]]:=by rw[take1 _ (by simpa using hi)];simp
 have:=h.appA (k:=1) f (by simp;lia) (by rw[e];intro x c;rw[zK3.mp c];exact d);unfold MA
 rwa [e,<-zU3]at this
theorem MA.pushB (h:MA a b out i j)(f:Up b.toList)(g:j<b.size)(d:∀y∈a.toList.drop i,ky b[j]<=ky y):MA a b (out.push b[j]) i (j+1):=by
 have e:(b.toList.drop j).take 1=[b[j]]:=by rw[take1 _ (by simpa using g)];simp
 have:=h.appB (k:=1) f (by simp;lia) (by rw[e];intro x c;rw[zK3.mp c];exact d);unfold MA
 rwa [e,<-zU3]at this
theorem MA.finB (h:MA a b out i j)(c:Up a.toList)(e:(j == b.size)=true):Good a.toList b.toList (out++a.extract i++b.extract j).toList:=by
 rw[zM2,zM2,wL,wL];exact h.doneB c (by simpa using e)
theorem MA.finA (h:MA a b out i j)(c:Up b.toList)(e:(i == a.size)=true):Good a.toList b.toList (out++a.extract i++b.extract j).toList:=by
 rw[zM2,zM2,wL,wL];exact h.doneA c (by simpa using e)
theorem MA.finL (h:MA a b out i j)(g:Up b.toList)(e:(i+1 == a.size)=true)(na:0<a.size)(d:∀y∈b.toList,ky y<=ky a[a.size-1]):Good a.toList b.toList (out++b.extract j++a.extract i).toList:=by
 rw[zM2,zM2,wL,wL];have f:i+1=a.size:=by simpa using e
 refine h.last g (by simpa using f) λy hy x c=>?_;have ha:a.toList.drop i=[a[a.size-1]]:=by
  rw[zM4 (by simp;lia),z21 (by simp;lia)];have:i=a.size-1:=by lia
  subst this;simp
 rw[ha]at c;rw[zK3.mp c];exact d y hy
theorem bA {l:List Keyed}(u:Up l){i:Nat}(hi:i<l.length):∀y∈l.drop i,ky l[i]<=ky y:=λy hy=>by
 have:=u.sublist (zU1 i l);rw[zM4 hi]at this hy;rcases zJ1.mp hy with rfl|hy
 ·exact zS9 _
 ·exact(List.pairwise_cons.mp this).1 y hy
theorem wA {a:Array Keyed}(u:Up a.toList){i:Nat}(hi:i<a.size):∀y∈a.toList.drop i,ky a[i]<=ky y:=by
 have:=bA u (i:=i) (by simpa using hi);simpa using this
theorem wa {a:Array Keyed}{i:Nat}(hi:i<a.size):K a i=ky a[i]:=by unfold K;rw[zM6 a i hi]
theorem rg {a:Array Keyed}(u:Up a.toList){i j:Nat}(c:i<=j)(d:j<a.size):K a i<=K a j:=by
 rw[wa (show i<a.size by lia),wa d];have:=wA u (show i<a.size by lia) a[j] (by
  rw[zV7];exact⟨j-i,by simp;lia,by simp[show i+(j-i)=j by lia]⟩)
 exact this
theorem xJ {a:Array Keyed}{left:Bool}{kz:Int}{base n:Nat}(up:∀i j,base<=i->i<=j->j<base+n->K a i<=K a j):∀i j,i<=j->j<n->tw left kz a base j=true->tw left kz a base i=true:=λi j c d h=>by
 have:=up (base+i) (base+j) (by lia) (by lia) (by lia);unfold tw at h ⊢;cases left with
 |true=>simp at h ⊢;lia
 |false=>simp at h ⊢;lia
theorem uh {a:Array Keyed}{left:Bool}{kz:Int}{base n k:Nat}(c:Cut (tw left kz a base) n k){i:Nat}(d:base<=i)(e:i<base+k):K a i<=kz:=by
 have:=c.lo (i-base) (by lia);unfold tw at this;rw[show base+(i-base)=i by lia]at this;cases left with
 |true=>simp at this;lia
 |false=>simp at this;lia
theorem um {a:Array Keyed}{left:Bool}{kz:Int}{base n k:Nat}(c:Cut (tw left kz a base) n k){i:Nat}(d:base+k<=i)(e:i<base+n):kz<=K a i:=by
 have:=c.hi (i-base) (by lia) (by lia);unfold tw at this;rw[show base+(i-base)=i by lia]at this;cases left with
 |true=>simp at this;lia
 |false=>simp at this;lia
theorem vD {a:Array Keyed}{P:Int->Prop}{i k:Nat}(h:∀t,i<=t->t<i+k->t<a.size->P (K a t)):∀x∈(a.toList.drop i).take k,P (ky x):=λx c=>by
 obtain⟨t,d,rfl⟩:=zV7.mp c;simp at d;have:=h (i+t) (by lia) (by lia) (by lia);rw[wa (show i+t<a.size by lia)]at this;simpa using this
theorem nB {a:Array Keyed}{P:Int->Prop}{i:Nat}(h:∀t,i<=t->t<a.size->P (K a t)):∀x∈a.toList.drop i,P (ky x):=λx c=>by
 obtain⟨t,d,rfl⟩:=zV7.mp c;simp at d;have:=h (i+t) (by lia) (by lia);rw[wa (show i+t<a.size by lia)]at this;simpa using this
end
section
variable {prog:Program}{w:World}{A:Around}{E:Value->Shared->Prop}{s:Shared}{a₀:Array Keyed}
abbrev SG (st:SortSt)(g:Nat):SortSt:=SortSt.mk' (kindOf st) (arrOf st) (pendingOf st) g (failedOf st)
theorem share {β:Type}{X Y:Nat->StateT SortSt Sem β}{Q:β->SortSt->Prop}{st:SortSt}{P:Nat->Prop}(hb:∀m,P m->wpS (model prog w) A E s (Y m) Q st)(ha:∀m,P (m-1)->wpS (model prog w) A E s (X m) Q st)(h:∀m,P m)(m:Nat):wpS (model prog w) A E s (if m > 1 then X m else Y m) Q st:=by
 split
 ·exact ha m (h _)
 ·exact hb m (h m)
theorem qN {β:Type}{c:Prop}[Decidable c]{X Y:Array Keyed->Nat->StateT SortSt Sem β}{Q:β->SortSt->Prop}{st:SortSt}{P a:Array Keyed->Nat->Prop}(R:Array Keyed->Nat->Prop)(d:∀o n,P o n->wpS (model prog w) A E s (Y o n) Q st)(hr:∀o n,a o n->¬c->R o n)(key:∀o n,R o n->P o n)(e:∀o n,a o n->c->(∀o n,R o n->P o n)->wpS (model prog w) A E s (X o n) Q st):∀o n,a o n->wpS (model prog w) A E s (if c then X o n else Y o n) Q st:=by
 intro o n b;split
 ·rename_i h;exact e o n b h key
 ·rename_i h;exact d o n (key o n (hr o n b h))
theorem zk9 {st:SortSt}{a b:Array Keyed}{Q:Array Keyed->SortSt->Prop}(hk:kindOf st=oneType')(ia:IntKeys a)(ib:IntKeys b)(N:Up a.toList)(H:Up b.toList)(na:0<a.size)(nb:0<b.size)
  (h1:∀x∈a.toList,ky b[0]<=ky x) (h2:∀y∈b.toList,ky y<=ky a[a.size-1])
  (h:∀r g,Good a.toList b.toList r.toList->Q r (SG st g)):wpS (model prog w) A E s (mlo a b) Q st:=by
 have m0:MA a b #[b[0]] 0 1:=by
  have:MA a b #[] 0 0:=⟨zJ8 _,zJ8 _,by simp,.nil,λx Y=>by simp at Y⟩;have:=this.pushB H nb (λy hy=>h1 y (by simpa using hy));simpa using this
 refine zJ3 (wpS_lift (zR7 ⟨rfl,?_⟩));refine zJ3 (zD (zM6 b 0 nb) ?_);dsimp only;by_cases c1:(1 == b.size)=true
 ·rw[if_pos c1];exact zJ9 (h _ (gallopOf st) (m0.finB N c1))
 rw[if_neg c1];by_cases c2:(0+1 == a.size)=true
 ·rw[if_pos c2];exact zJ9 (h _ (gallopOf st) (m0.finL H c2 na h2))
 rw[if_neg c2];refine zJ3 (wpS_get ?_);have b2:1<b.size:=by
  have:¬1=b.size:=by simpa using c1
  lia
 have b3:0+1<a.size:=by
  have:¬0+1=a.size:=by simpa using c2
  lia
 refine zJ3 (zT8 (zP1 (I:=λx c st'=>(∃g,st'=SG st g)/\∃out i j mg,c=(none,out,i,j,mg)/\MA a b out i j/\i+1<a.size/\j<b.size/\x+1<=i+j)
  (Q:=λc st'=>(∃g,st'=SG st g)/\∃r,c.1=some r/\Good a.toList b.toList r.toList) ?_ ?_ ⟨⟨_,rfl⟩,_,0,1,_,rfl,m0,b3,b2,by lia⟩) ?_)
 ·rintro x c st' _ Y ⟨⟨g,rfl⟩,out,i,j,mg,rfl,m,hi,l,a8⟩;dsimp only;refine zJ3 (zT8 (zP1 (I:=λx c st'=>st'=SG st g/\∃f e d ac C,c=(none,f,e,d,ac,C)/\MA a b f e d/\e+1<a.size/\d<b.size/\i+j+x<=e+d)
   (Q:=λc st'=>st'=SG st g/\((∃r,c.1=some r/\Good a.toList b.toList r.toList)\/∃f e d ac C,c=(none,f,e,d,ac,C)/\MA a b f e d/\e+1<a.size/\d<b.size/\i+j+1<=e+d)) ?_ ?_ ⟨rfl,out,i,j,0,0,rfl,m,hi,l,by lia⟩) ?_)
  ·rintro x c st' _ Y ⟨rfl,out,e,d,ac,C,rfl,m,hi,l,F⟩;dsimp only;obtain⟨t1,e1⟩:=yn ib l;obtain⟨t2,e2⟩:=yn ia (show e<a.size by lia);have G:=wa l;have S:=wa (show e<a.size by lia);refine zJ3 (zD (zM6 b d l) (zJ3 (zD (zM6 a e (by lia)) (zJ3 (kK hk e1 e2 ?_)))));by_cases hw:K b d<K a e
   ·rw[zM1 hw];dsimp only;rw[if_pos rfl];refine zJ3 (zD (zM6 b d l) ?_);have X:=m.pushB H l λy hy=>by have:=wA N (show e<a.size by lia) y hy;lia
    by_cases D:(d+1 == b.size)=true
    ·rw[if_pos D];exact zJ9 ⟨rfl,.inl ⟨_,rfl,X.finB N D⟩⟩
    ·rw[if_neg D];have u:d+1<b.size:=by
                      have:¬d+1=b.size:=by simpa using D
                      lia
     by_cases O:C+1≥mg
     ·rw[if_pos O];exact zJ9 ⟨rfl,.inr ⟨_,_,_,_,_,rfl,X,hi,u,by lia⟩⟩
     ·rw[if_neg O];exact zJ9 ⟨rfl,_,_,_,_,_,rfl,X,hi,u,by lia⟩
   ·rw[zL2 hw];dsimp only;rw[if_neg (by decide)];refine zJ3 (zD (zM6 a e (by lia)) ?_);have X:=m.pushA N (show e<a.size by lia) λy hy=>by have:=wA H l y hy;lia
    by_cases D:(e+1+1 == a.size)=true
    ·rw[if_pos D];exact zJ9 ⟨rfl,.inl ⟨_,rfl,X.finL H D na h2⟩⟩
    ·rw[if_neg D];have u:e+1+1<a.size:=by
                        have:¬e+1+1=a.size:=by simpa using D
                        lia
     by_cases O:ac+1≥mg
     ·rw[if_pos O];exact zJ9 ⟨rfl,.inr ⟨_,_,_,_,_,rfl,X,u,l,by lia⟩⟩
     ·rw[if_neg O];exact zJ9 ⟨rfl,_,_,_,_,_,rfl,X,u,l,by lia⟩
  ·rintro c st' ⟨rfl,out,e,d,ac,C,rfl,m,hi,l,F⟩;exact⟨rfl,.inr ⟨_,_,_,_,_,rfl,m,hi,l,by lia⟩⟩
  rintro c st' ⟨rfl,hc⟩;rcases hc with⟨r,hr,gd⟩|⟨out,e,d,ac,C,rfl,m,hi,l,F⟩
  ·rw[hr];exact zJ9 ⟨⟨g,rfl⟩,r,rfl,gd⟩
  dsimp only;refine zJ3 (wpS_lift (zR7 ⟨rfl,?_⟩));clear m0;refine zJ3 (zT8 (zP1 (I:=λ_ c st'=>(∃g,st'=SG st g)/\∃f e d mg ac C,c=(none,f,e,d,mg,ac,C)/\MA a b f e d/\e+1<a.size/\d<b.size/\i+j+1<=e+d)
   (Q:=λc st'=>(∃g,st'=SG st g)/\((∃r,c.1=some r/\Good a.toList b.toList r.toList)\/∃f e d mg ac C,c=(none,f,e,d,mg,ac,C)/\MA a b f e d/\e+1<a.size/\d<b.size/\i+j+1<=e+d)) ?_ ?_ ⟨⟨g,rfl⟩,out,e,d,mg+1,ac,C,rfl,m,hi,l,F⟩) ?_)
  ·clear m hi l F;rintro y c st' _ hy ⟨⟨g,rfl⟩,out,e,d,mg,ac,C,rfl,m,hi,l,F⟩;dsimp only;obtain⟨t1,e1⟩:=yn ib l;have a1:=wa l
   revert mg
   refine share (λ_ z=>z) (λ_ z=>z) λmg=>?_;refine zJ3 (zV9 ?_);refine zJ3 (zD (zM6 b d l) ?_);refine zJ3 (uf hk e1 ia (by lia) (by lia) (xJ λp q _ J Z=>rg N J (by lia)) λG T=>?_);have b4:=T.le;have B:∀y∈a.toList.drop (e+G),ky b[d]<=ky y:=nB (P:=λz=>ky b[d]<=z) λt J Z=>by rw[<-a1];exact um T J (by lia)
   have R:∀x∈(a.toList.drop e).take G,ky x<=ky b[d]:=vD (P:=λz=>z<=ky b[d]) λt J Z _=>by rw[<-a1];exact uh T J Z
   dsimp only;have H0:MA a b out e d/\e+1<a.size/\e+G<=a.size/\(∀y∈a.toList.drop (e+G),ky b[d]<=ky y)/\(∀x∈(a.toList.drop e).take G,ky x<=ky b[d])/\i+j+1<=e+d:=⟨m,hi,by lia,B,R,F⟩;clear m hi F B R T b4
   revert out e H0
   refine qN (λo n=>MA a b o n d/\n+1<a.size/\(∀y∈a.toList.drop n,ky b[d]<=ky y)/\i+j+1<=n+d) (λ_ _ z=>z) ?_ ?_ ?_
   ·rintro out e ⟨m,hi,_,B,_,F⟩ z;have a2:G=0:=by lia
    subst a2;exact⟨m,hi,B,F⟩
   ·rintro W i1 ⟨m1,a4,B,a9⟩;have m2:=m1.pushB H l B;refine zJ3 (zD (zM6 b d l) ?_);by_cases D:(d+1 == b.size)=true
    ·rw[if_pos D];exact zJ9 ⟨⟨_,rfl⟩,.inl ⟨_,rfl,m2.finB N D⟩⟩
    rw[if_neg D];have u:d+1<b.size:=by
     have:¬d+1=b.size:=by simpa using D
     lia
    have v:i1<a.size:=by lia
    obtain⟨t2,e2⟩:=yn ia v;refine zJ3 (zD (zM6 a i1 v) ?_);refine zJ3 (uf hk e2 ib (by lia) (by lia) (xJ λp q _ J Z=>rg H J (by lia)) λS U=>?_);have b1:=U.le;have a5:=wa v;have H1:MA a b (W.push b[d]) i1 (d+1)/\d+1<b.size/\d+1+S<=b.size/\(∀y∈b.toList.drop (d+1+S),ky a[i1]<=ky y)/\(∀x∈(b.toList.drop (d+1)).take S,ky x<=ky a[i1])/\i+j+1<=i1+(d+1):=
     ⟨m2,u,by lia,nB (P:=λz=>ky a[i1]<=z) λt J Z=>by rw[<-a5];exact um U J (by lia),vD (P:=λz=>z<=ky a[i1]) λt J Z _=>by rw[<-a5];exact uh U J Z,by lia⟩
    dsimp only;clear U b1 m2 u D m1 B a9;generalize W.push b[d]=L at H1 ⊢;generalize d+1=j1 at H1 ⊢
    revert L j1 H1
    refine qN (λo n=>MA a b o i1 n/\n<b.size/\(∀y∈b.toList.drop n,ky a[i1]<=ky y)/\i+j+1<=i1+n) (λ_ _ z=>z) ?_ ?_ ?_
    ·rintro L j1 ⟨m2,u,_,M,_,a6⟩ z;have a3:S=0:=by lia
     subst a3;exact⟨m2,u,M,a6⟩
    ·rintro b5 j3 ⟨m3,V,M,b8⟩;have m4:=m3.pushA N v M;refine zJ3 (zD (zM6 a i1 v) ?_);by_cases d3:(i1+1+1 == a.size)=true
     ·rw[if_pos d3];exact zJ9 ⟨⟨_,rfl⟩,.inl ⟨_,rfl,m4.finL H d3 na h2⟩⟩
     rw[if_neg d3];have a0:i1+1+1<a.size:=by
      have:¬i1+1+1=a.size:=by simpa using d3
      lia
     have a7:i+j+1<=i1+1+j3:=by lia
     split
     ·exact zJ9 ⟨⟨_,rfl⟩,.inr ⟨_,_,_,_,_,_,rfl,m4,a0,V,a7⟩⟩
     ·exact zJ9 ⟨⟨_,rfl⟩,_,_,_,_,_,_,rfl,m4,a0,V,a7⟩
    ·rintro L j1 ⟨m2,u,lk,M,b0,a6⟩ b6 key;have m3:=m2.extB H (k:=S) lk λx Y y hy=>zU9 (b0 x Y) (wA N v y hy);by_cases O:(j1+S == b.size)=true
     ·rw[if_pos O];exact zJ9 ⟨⟨_,rfl⟩,.inl ⟨_,rfl,m3.finB N O⟩⟩
     rw[if_neg O];have V:j1+S<b.size:=by
      have:¬j1+S=b.size:=by simpa using O
      lia
     exact key _ _ ⟨m3,V,M,by lia⟩
   ·rintro out e ⟨m,hi,lk,B,R,F⟩ b7 key;have m1:=m.extA N (k:=G) lk λx Y y hy=>zU9 (R x Y) (wA H l y hy);by_cases d4:(e+G+1 == a.size)=true
    ·rw[if_pos d4];exact zJ9 ⟨⟨_,rfl⟩,.inl ⟨_,rfl,m1.finL H d4 na h2⟩⟩
    rw[if_neg d4];by_cases d5:(e+G == a.size)=true
    ·rw[if_pos d5];exact zJ9 ⟨⟨_,rfl⟩,.inl ⟨_,rfl,m1.finA H d5⟩⟩
    rw[if_neg d5];have a4:e+G+1<a.size:=by
     have:¬e+G+1=a.size:=by simpa using d4
     have:¬e+G=a.size:=by simpa using d5
     lia
    exact key _ _ ⟨m1,a4,B,by lia⟩
  ·rintro c st' ⟨⟨g,rfl⟩,f,e,d,mg,ac,C,rfl,m,hi,l,F⟩;exact⟨⟨g,rfl⟩,.inr ⟨_,_,_,_,_,_,rfl,m,hi,l,F⟩⟩
  ·rintro c st' ⟨⟨g,rfl⟩,hc⟩;rcases hc with⟨r,hr,gd⟩|⟨out,e,d,mg,ac,C,rfl,m,hi,l,F⟩
   ·rw[hr];exact zJ9 ⟨⟨g,rfl⟩,r,rfl,gd⟩
   ·dsimp only;refine zJ3 (zV9 ?_);exact zJ9 ⟨⟨_,rfl⟩,_,_,_,_,rfl,m,hi,l,by lia⟩
 ·rintro c st' ⟨_,out,i,j,mg,rfl,m,hi,l,a8⟩
  lia
 ·rintro c st' ⟨⟨g,rfl⟩,r,hr,gd⟩;rw[hr];exact zJ9 (h r g gd)
end
def mhi :Array Keyed->Array Keyed->StateT SortSt Sem (Array Keyed):=sortPriv% PySem.Builtin.mergeHi
structure MJ (a b L:List Keyed)(n m:Nat):Prop where
 na:n<=a.length
 mb:m<=b.length
 pm:L.Perm (a.drop n++b.drop m)
 up:Up L
 le:∀x∈a.take n++b.take m,∀y∈L,ky x<=ky y
section
variable {a b L:List Keyed}{n m k:Nat}
theorem MJ.doneA (h:MJ a b L 0 m)(d:Up b):Good a b (b.take m++L):=by
 refine⟨?_,zM3.mpr ⟨d.sublist (zU0 _ _),h.up,λx c y hy=>h.le x (zK4 _ c) y hy⟩⟩;refine(zN8 _ h.pm).trans ?_;have:(b.take m++(a++b.drop m)).Perm (a++(b.take m++b.drop m)):=by
  rw[<-zK8,<-zK8];exact zU8 _ zR4
 rwa [zL6]at this
theorem MJ.doneB (h:MJ a b L n 0)(d:Up a):Good a b (a.take n++L):=by
 refine⟨?_,zM3.mpr ⟨d.sublist (zU0 _ _),h.up,λx c y hy=>h.le x (zL1 _ c) y hy⟩⟩;refine(zN8 _ h.pm).trans ?_;rw[<-zK8,zL6];exact List.Perm.refl _
theorem MJ.first (h:MJ a b L n 1)(f:Up a)(hb:0<b.length)(d:∀x∈a,ky b[0]<=ky x):Good a b (b.take 1++a.take n++L):=by
 have e:b.take 1=[b[0]]:=by
  match b,hb with
  |y::ys,_=>rfl
 refine⟨?_,?_⟩
 ·refine(zN8 _ h.pm).trans ?_;have:(b.take 1++a.take n++(a.drop n++b.drop 1)).Perm (a.take n++a.drop n++(b.take 1++b.drop 1)):=by
   rw[zK8 (a.take n)];rw[<-zK8 (a.drop n)];refine(zU8 _ zR4).trans ?_;rw[zK8];refine zN8 _ ?_;rw[<-zK8];exact zU8 _ zR4
  rwa [zL6,zL6]at this
 ·refine zM3.mpr ⟨zM3.mpr ⟨by rw[e];exact z07 _ _,f.sublist (zU0 _ _),λx c y hy=>?_⟩,h.up,λx c y hy=>?_⟩
  ·rw[e]at c;rw[zK3.mp c];exact d y (zS0 hy)
  ·refine h.le x ?_ y hy;rcases zK6.mp c with c|c
   ·exact zK4 _ c
   ·exact zL1 _ c
theorem MJ.preA (h:MJ a b L n m)(g:Up a)(hk:k<=n)(f:∀x∈(a.take n).drop k,∀y∈b.take m,ky y<=ky x):MJ a b ((a.take n).drop k++L) k m:=by
 have j:(a.take n).take k=a.take k:=by rw[z35,zZ8 hk]
 have sp:a.take n=a.take k++(a.take n).drop k:=by rw[<-j,zL6]
 have l:Up (a.take n):=g.sublist (zU0 _ _);have d:=l;rw[sp]at d;obtain⟨o,e,i⟩:=zM3.mp d;refine⟨zK1 hk h.na,h.mb,?_,zM3.mpr ⟨e,h.up,λx c y hy=>h.le x (zL1 _ (zQ4 c)) y hy⟩,λx c y hy=>?_⟩
 ·refine(zN8 _ h.pm).trans ?_;have:a.drop k=(a.take n).drop k++a.drop n:=by
   conv=>lhs;rw[<-zL6 n a]
   rw[List.drop_append_of_le_length (by have:=h.na;rw[zO9];lia)]
  rw[this,zK8]
 ·rcases zK6.mp hy with hy|hy
  ·rcases zK6.mp c with c|c
   ·exact i x c y hy
   ·exact f y hy x c
  ·refine h.le x ?_ y hy;rcases zK6.mp c with c|c
   ·rw[sp];exact zL1 _ (zL1 _ c)
   ·exact zK4 _ c
theorem MJ.preB (h:MJ a b L n m)(j:Up b)(hk:k<=m)(f:∀x∈(b.take m).drop k,∀y∈a.take n,ky y<=ky x):MJ a b ((b.take m).drop k++L) n k:=by
 have i:(b.take m).take k=b.take k:=by rw[z35,zZ8 hk]
 have sp:b.take m=b.take k++(b.take m).drop k:=by rw[<-i,zL6]
 have d:Up (b.take m):=j.sublist (zU0 _ _);rw[sp]at d;obtain⟨l,e,g⟩:=zM3.mp d;refine⟨h.na,zK1 hk h.mb,?_,zM3.mpr ⟨e,h.up,λx c y hy=>h.le x (zK4 _ (zQ4 c)) y hy⟩,λx c y hy=>?_⟩
 ·refine(zN8 _ h.pm).trans ?_;have:b.drop k=(b.take m).drop k++b.drop m:=by
   conv=>lhs;rw[<-zL6 m b]
   rw[List.drop_append_of_le_length (by have:=h.mb;rw[zO9];lia)]
  rw[this,<-zK8,<-zK8];exact zU8 _ zR4
 ·rcases zK6.mp hy with hy|hy
  ·rcases zK6.mp c with c|c
   ·exact f y hy x c
   ·exact g x c y hy
  ·refine h.le x ?_ y hy;rcases zK6.mp c with c|c
   ·exact zL1 _ c
   ·rw[sp];exact zK4 _ (zL1 _ c)
end
abbrev MB (a b out:Array Keyed)(n m:Nat):Prop:=MJ a.toList b.toList out.toList.reverse n m
section
variable {a b out:Array Keyed}{n m k:Nat}
theorem rV (a:Array Keyed)(n:Nat):(a.extract 0 n).toList=a.toList.take n:=by rw[zY5,zV8];simp
theorem wJ (a:Array Keyed)(k n:Nat):(a.extract k n).toList=(a.toList.take n).drop k:=by rw[zY5,zV8,List.drop_take]
theorem MB.extA (h:MB a b out n m)(d:Up a.toList)(hk:k<=n)(c:∀x∈(a.toList.take n).drop k,∀y∈b.toList.take m,ky y<=ky x):MB a b (out++(a.extract k n).reverse) k m:=by
 have:=h.preA d hk c;unfold MB
 rwa [zM2,zW0,zU5,List.reverse_reverse,wJ]
theorem MB.extB (h:MB a b out n m)(d:Up b.toList)(hk:k<=m)(c:∀x∈(b.toList.take m).drop k,∀y∈a.toList.take n,ky y<=ky x):MB a b (out++(b.extract k m).reverse) n k:=by
 have:=h.preB d hk c;unfold MB
 rwa [zM2,zW0,zU5,List.reverse_reverse,wJ]
theorem rW {a:Array Keyed}{n:Nat}(h:n-1<a.size)(h0:0<n):(a.toList.take n).drop (n-1)=[a[n-1]]:=by
 have:n-(n-1)=1:=by lia
 rw[List.drop_take,this,take1 _ (by simpa using h)];simp
theorem MB.pushA (h:MB a b out n m)(f:Up a.toList)(h0:0<n)(hn:n-1<a.size)(d:∀y∈b.toList.take m,ky y<=ky a[n-1]):MB a b (out.push a[n-1]) (n-1) m:=by
 have e:=rW hn h0;have:=h.preA (k:=n-1) f (by lia) (by rw[e];intro x c;rw[zK3.mp c];exact d);unfold MB;rw[e]at this
 rwa [zU3,zU5]
theorem MB.pushB (h:MB a b out n m)(f:Up b.toList)(h0:0<m)(hm:m-1<b.size)(d:∀y∈a.toList.take n,ky y<=ky b[m-1]):MB a b (out.push b[m-1]) n (m-1):=by
 have e:=rW hm h0;have:=h.preB (k:=m-1) f (by lia) (by rw[e];intro x c;rw[zK3.mp c];exact d);unfold MB;rw[e]at this
 rwa [zU3,zU5]
theorem MB.finA (h:MB a b out n m)(c:Up b.toList)(e:(n == 0)=true):Good a.toList b.toList (a.extract 0 n++b.extract 0 m++out.reverse).toList:=by
 have d:n=0:=by simpa using e
 subst d;rw[zM2,zM2,rV,rV,zW0];exact h.doneA c
theorem MB.finB (h:MB a b out n m)(c:Up a.toList)(e:(m == 0)=true):Good a.toList b.toList (a.extract 0 n++b.extract 0 m++out.reverse).toList:=by
 have d:m=0:=by simpa using e
 subst d;rw[zM2,zM2,rV,rV,zW0,List.take_zero,zO1];exact h.doneB c
theorem MB.finF (h:MB a b out n m)(f:Up a.toList)(e:(m == 1)=true)(hb:0<b.size)(c:∀x∈a.toList,ky b[0]<=ky x):Good a.toList b.toList (b.extract 0 m++a.extract 0 n++out.reverse).toList:=by
 have d:m=1:=by simpa using e
 subst d;rw[zM2,zM2,rV,rV,zW0];exact h.first f (by simpa using hb) (by simpa using c)
theorem uF {a:Array Keyed}{P:Int->Prop}{n:Nat}(h:∀t,t<n->t<a.size->P (K a t)):∀x∈a.toList.take n,P (ky x):=λx c=>by
 have:=vD (a:=a) (P:=P) (i:=0) (k:=n) (λt _ e d=>h t (by lia) d) x;exact this (by simpa using c)
theorem kn {a:Array Keyed}{P:Int->Prop}{k n:Nat}(h:∀t,k<=t->t<n->t<a.size->P (K a t)):∀x∈(a.toList.take n).drop k,P (ky x):=λx c=>by
 rw[List.drop_take]at c;exact vD (a:=a) (P:=P) (i:=k) (k:=n-k) (λt h0 e d=>h t h0 (by lia) d) x c
theorem vE {a:Array Keyed}(u:Up a.toList){n:Nat}(hn:n-1<a.size):∀y∈a.toList.take n,ky y<=ky a[n-1]:=by
 rw[<-wa hn];exact uF (P:=λz=>z<=K a (n-1)) λt d c=>rg u (by lia) hn
end
section
variable {prog:Program}{w:World}{A:Around}{E:Value->Shared->Prop}{s:Shared}{a₀:Array Keyed}
theorem zs1 {st:SortSt}{a b:Array Keyed}{Q:Array Keyed->SortSt->Prop}(hk:kindOf st=oneType')(ia:IntKeys a)(ib:IntKeys b)(H:Up a.toList)(R:Up b.toList)(na:0<a.size)(nb:0<b.size)
  (h1:∀x∈a.toList,ky b[0]<=ky x) (h2:∀y∈b.toList,ky y<=ky a[a.size-1])
  (h:∀r g,Good a.toList b.toList r.toList->Q r (SG st g)):wpS (model prog w) A E s (mhi a b) Q st:=by
 have m0:MB a b #[a[a.size-1]] (a.size-1) b.size:=by
  have:MB a b #[] a.size b.size:=⟨by simp,by simp,by simp,.nil,λx hx y hy=>by simp at hy⟩;have:=this.pushA H na (by lia) (λy hy=>h2 y (zS0 hy));simpa using this
 refine zJ3 (wpS_lift (zR7 ⟨rfl,?_⟩));refine zJ3 (zD (zM6 a (a.size-1) (by lia)) ?_);dsimp only;by_cases c1:(a.size-1 == 0)=true
 ·rw[if_pos c1];exact zJ9 (h _ (gallopOf st) (m0.finA R c1))
 rw[if_neg c1];by_cases c2:(b.size == 1)=true
 ·rw[if_pos c2];exact zJ9 (h _ (gallopOf st) (m0.finF H c2 nb h1))
 rw[if_neg c2];refine zJ3 (wpS_get ?_);have b0:0<a.size-1:=by
  have:¬a.size-1=0:=by simpa using c1
  lia
 have b1:1<b.size:=by
  have:¬b.size=1:=by simpa using c2
  lia
 refine zJ3 (zT8 (zP1 (I:=λx c st'=>(∃g,st'=SG st g)/\∃out n m mg,c=(none,n,m,out,mg)/\MB a b out n m/\0<n/\1<m/\n<a.size/\m<=b.size/\x+1+n+m<=a.size+b.size)
  (Q:=λc st'=>(∃g,st'=SG st g)/\∃r,c.1=some r/\Good a.toList b.toList r.toList) ?_ ?_ ⟨⟨_,rfl⟩,_,_,_,_,rfl,m0,b0,b1,by lia,by lia,by lia⟩) ?_)
 ·clear m0;rintro x c st' _ hx ⟨⟨g,rfl⟩,out,n,m,mg,rfl,m0,hn,hm,Z,l,a6⟩;dsimp only;refine zJ3 (zT8 (zP1 (I:=λx c st'=>st'=SG st g/\∃f e d ac C,c=(none,e,d,f,ac,C)/\MB a b f e d/\0<e/\1<d/\e<a.size/\d<=b.size/\x+e+d<=n+m)
   (Q:=λc st'=>st'=SG st g/\((∃r,c.1=some r/\Good a.toList b.toList r.toList)\/∃f e d ac C,c=(none,e,d,f,ac,C)/\MB a b f e d/\0<e/\1<d/\e<a.size/\d<=b.size/\1+e+d<=n+m)) ?_ ?_ ⟨rfl,out,n,m,0,0,rfl,m0,hn,hm,Z,l,by lia⟩) ?_)
  ·clear m0 Z l hn hm;rintro x c st' _ hx ⟨rfl,out,e,d,ac,C,rfl,m0,hn,hm,i,u,B⟩;dsimp only;have hj:d-1<b.size:=by lia
   have hi:e-1<a.size:=by lia
   obtain⟨t1,e1⟩:=yn ib hj;obtain⟨t2,e2⟩:=yn ia hi;have M:=wa hj;have F:=wa hi;refine zJ3 (zD (zM6 b _ hj) (zJ3 (zD (zM6 a _ hi) (zJ3 (kK hk e1 e2 ?_)))));by_cases hw:K b (d-1)<K a (e-1)
   ·rw[zM1 hw];dsimp only;rw[if_pos rfl];refine zJ3 (zD (zM6 a _ hi) ?_);have m1:=m0.pushA H hn hi λy hy=>by have:=vE R hj y hy;lia
    by_cases D:(e-1 == 0)=true
    ·rw[if_pos D];exact zJ9 ⟨rfl,.inl ⟨_,rfl,m1.finA R D⟩⟩
    ·rw[if_neg D];have j:0<e-1:=by
                   have:¬e-1=0:=by simpa using D
                   lia
     by_cases S:ac+1≥mg
     ·rw[if_pos S];exact zJ9 ⟨rfl,.inr ⟨_,_,_,_,_,rfl,m1,j,hm,by lia,u,by lia⟩⟩
     ·rw[if_neg S];exact zJ9 ⟨rfl,_,_,_,_,_,rfl,m1,j,hm,by lia,u,by lia⟩
   ·rw[zL2 hw];dsimp only;rw[if_neg (by decide)];refine zJ3 (zD (zM6 b _ hj) ?_);have m1:=m0.pushB R (by lia) hj λy hy=>by have:=vE H hi y hy;lia
    by_cases D:(d-1 == 1)=true
    ·rw[if_pos D];exact zJ9 ⟨rfl,.inl ⟨_,rfl,m1.finF H D nb h1⟩⟩
    ·rw[if_neg D];have j:1<d-1:=by
                   have:¬d-1=1:=by simpa using D
                   lia
     by_cases S:C+1≥mg
     ·rw[if_pos S];exact zJ9 ⟨rfl,.inr ⟨_,_,_,_,_,rfl,m1,hn,j,by lia,by lia,by lia⟩⟩
     ·rw[if_neg S];exact zJ9 ⟨rfl,_,_,_,_,_,rfl,m1,hn,j,by lia,by lia,by lia⟩
  ·rintro c st' ⟨rfl,out,e,d,ac,C,rfl,m0,hn,hm,i,u,B⟩;exact⟨rfl,.inr ⟨_,_,_,_,_,rfl,m0,hn,hm,i,u,by lia⟩⟩
  rintro c st' ⟨rfl,hc⟩;rcases hc with⟨r,hr,gd⟩|⟨out,e,d,ac,C,rfl,m0,hn,hm,i,u,B⟩
  ·rw[hr];exact zJ9 ⟨⟨g,rfl⟩,r,rfl,gd⟩
  dsimp only;refine zJ3 (wpS_lift (zR7 ⟨rfl,?_⟩));refine zJ3 (zT8 (zP1 (I:=λ_ c st'=>(∃g,st'=SG st g)/\∃f e d mg ac C,c=(none,e,d,f,mg,ac,C)/\MB a b f e d/\0<e/\1<d/\e<a.size/\d<=b.size/\1+e+d<=n+m)
   (Q:=λc st'=>(∃g,st'=SG st g)/\((∃r,c.1=some r/\Good a.toList b.toList r.toList)\/∃f e d mg ac C,c=(none,e,d,f,mg,ac,C)/\MB a b f e d/\0<e/\1<d/\e<a.size/\d<=b.size/\1+e+d<=n+m)) ?_ ?_ ⟨⟨g,rfl⟩,out,e,d,mg+1,ac,C,rfl,m0,hn,hm,i,u,B⟩) ?_)
  ·clear m0 hn hm i u B Z l;rintro y c st' _ hy ⟨⟨g,rfl⟩,out,e,d,mg,ac,C,rfl,m0,hn,hm,i,u,B⟩;dsimp only;have l:d-1<b.size:=by lia
   obtain⟨t1,e1⟩:=yn ib l;have a1:=wa l
   revert mg
   refine share (λ_ z=>z) (λ_ z=>z) λmg=>?_;refine zJ3 (zV9 ?_);refine zJ3 (zD (zM6 b (d-1) l) ?_);refine zJ3 (uf hk e1 ia (by lia) (by lia) (xJ λp q _ h6 h7=>rg H h6 (by lia)) λM U=>?_);have O:=U.le;dsimp only;generalize T:e-M=ac1;have H0:MB a b out e d/\0<e/\e<a.size/\(M<=e/\e-M=ac1)/\(∀y∈a.toList.take M,ky y<=ky b[d-1])/\(∀x∈(a.toList.take e).drop M,ky b[d-1]<=ky x)/\1+e+d<=n+m:=
    ⟨m0,hn,i,⟨O,T⟩,uF (P:=λz=>z<=ky b[d-1]) λt h6 h7=>by rw[<-a1];exact uh U (by lia) (by lia),kn (P:=λz=>ky b[d-1]<=z) λt h6 h7 _=>by rw[<-a1];exact um U (by lia) (by lia),B⟩
   clear m0 hn i B U O T
   revert out e H0
   refine qN (λo n1=>MB a b o n1 d/\0<n1/\n1<a.size/\(∀y∈a.toList.take n1,ky y<=ky b[d-1])/\1+n1+d<=n+m) (λ_ _ z=>z) ?_ ?_ ?_
   ·rintro out e ⟨m0,hn,i,⟨O,T⟩,G,_,B⟩ z;have a2:M=e:=by lia
    subst a2;exact⟨m0,hn,i,G,B⟩
   ·rintro Y n1 ⟨m1,hn,i,G,B⟩;have m2:=m1.pushB R (by lia) l G;refine zJ3 (zD (zM6 b (d-1) l) ?_);by_cases D:(d-1 == 1)=true
    ·rw[if_pos D];exact zJ9 ⟨⟨_,rfl⟩,.inl ⟨_,rfl,m2.finF H D nb h1⟩⟩
    rw[if_neg D];have j:1<d-1:=by
     have:¬d-1=1:=by simpa using D
     lia
    have v:n1-1<a.size:=by lia
    obtain⟨t2,e2⟩:=yn ia v;refine zJ3 (zD (zM6 a (n1-1) v) ?_);refine zJ3 (uf hk e2 ib (by lia) (by lia) (xJ λp q _ h6 h7=>rg R h6 (by lia)) λF W=>?_);have L:=W.le;have a4:=wa v;dsimp only;generalize V:d-1-F=bc1;have H1:MB a b (Y.push b[d-1]) n1 (d-1)/\1<d-1/\d-1<=b.size/\(F<=d-1/\d-1-F=bc1)/\(∀y∈b.toList.take F,ky y<=ky a[n1-1])/\(∀x∈(b.toList.take (d-1)).drop F,ky a[n1-1]<=ky x)/\1+n1+(d-1)<=n+m:=
     ⟨m2,j,by lia,⟨L,V⟩,uF (P:=λz=>z<=ky a[n1-1]) λt h6 h7=>by rw[<-a4];exact uh W (by lia) (by lia),kn (P:=λz=>ky a[n1-1]<=z) λt h6 h7 _=>by rw[<-a4];exact um W (by lia) (by lia),by lia⟩
    clear W L m2 j D m1 G B V;generalize Y.push b[d-1]=J at H1 ⊢;generalize d-1=m2 at H1 ⊢
    revert J m2 H1
    refine qN (λo n2=>MB a b o n1 n2/\1<n2/\n2<=b.size/\(∀y∈b.toList.take n2,ky y<=ky a[n1-1])/\1+n1+n2<=n+m) (λ_ _ z=>z) ?_ ?_ ?_
    ·rintro J m2 ⟨mm,j,lb,⟨L,V⟩,N,_,B⟩ z;have a3:F=m2:=by lia
     subst a3;exact⟨mm,j,lb,N,B⟩
    ·rintro b2 m3 ⟨mm,X,lb,N,B⟩;have m4:=mm.pushA H (by lia) v N;refine zJ3 (zD (zM6 a (n1-1) v) ?_);by_cases d3:(n1-1 == 0)=true
     ·rw[if_pos d3];exact zJ9 ⟨⟨_,rfl⟩,.inl ⟨_,rfl,m4.finA R d3⟩⟩
     rw[if_neg d3];have a0:0<n1-1:=by
      have:¬n1-1=0:=by simpa using d3
      lia
     have a5:1+(n1-1)+m3<=n+m:=by lia
     split
     ·exact zJ9 ⟨⟨_,rfl⟩,.inr ⟨_,_,_,_,_,_,rfl,m4,a0,X,by lia,lb,a5⟩⟩
     ·exact zJ9 ⟨⟨_,rfl⟩,_,_,_,_,_,_,rfl,m4,a0,X,by lia,lb,a5⟩
    ·rintro J m2 ⟨mm,j,lb,⟨L,V⟩,N,a8,B⟩ b3 key;have m3:=mm.extB R (k:=F) L λx hx y hy=>zU9 (vE H v y hy) (a8 x hx);by_cases S:(F == 1)=true
     ·rw[if_pos S];exact zJ9 ⟨⟨_,rfl⟩,.inl ⟨_,rfl,m3.finF H S nb h1⟩⟩
     rw[if_neg S];by_cases d5:(F == 0)=true
     ·rw[if_pos d5];exact zJ9 ⟨⟨_,rfl⟩,.inl ⟨_,rfl,m3.finB H d5⟩⟩
     rw[if_neg d5];have X:1<F:=by
      have:¬F=1:=by simpa using S
      have:¬F=0:=by simpa using d5
      lia
     exact key _ _ ⟨m3,X,by lia,N,by lia⟩
   ·rintro out e ⟨m0,hn,i,⟨O,T⟩,G,a7,B⟩ b4 key;have m1:=m0.extA H (k:=M) O λx hx y hy=>zU9 (vE R l y hy) (a7 x hx);by_cases d4:(M == 0)=true
    ·rw[if_pos d4];exact zJ9 ⟨⟨_,rfl⟩,.inl ⟨_,rfl,m1.finA R d4⟩⟩
    rw[if_neg d4];have a9:0<M:=by
     have:¬M=0:=by simpa using d4
     lia
    exact key _ _ ⟨m1,a9,by lia,G,by lia⟩
  ·rintro c st' ⟨⟨g,rfl⟩,f,e,d,mg,ac,C,rfl,m0,r⟩;exact⟨⟨g,rfl⟩,.inr ⟨_,_,_,_,_,_,rfl,m0,r⟩⟩
  ·rintro c st' ⟨⟨g,rfl⟩,hc⟩;rcases hc with⟨r,hr,gd⟩|⟨out,e,d,mg,ac,C,rfl,m0,hn,hm,i,u,B⟩
   ·rw[hr];exact zJ9 ⟨⟨g,rfl⟩,r,rfl,gd⟩
   ·dsimp only;refine zJ3 (zV9 ?_);exact zJ9 ⟨⟨_,rfl⟩,_,_,_,_,rfl,m0,hn,hm,i,u,by lia⟩
 ·rintro c st' ⟨_,out,n,m,mg,rfl,m0,hn,hm,_,_,a6⟩
  lia
 ·rintro c st' ⟨⟨g,rfl⟩,r,hr,gd⟩;rw[hr];exact zJ9 (h r g gd)
end
def zP (xs:Array Keyed)(l u:Nat):Prop:=∀i j,l<=i->i<=j->j<u->K xs i<=K xs j
theorem bJ {M:Model}{A:Around}{E:Value->Shared->Prop}{s:Shared}{σ:Type}{x:σ}{Q:PUnit->σ->Prop}{st:σ}(h:Q ⟨⟩ x):wpS M A E s (set x:StateT σ Sem PUnit) Q st:=by unfold wpS;rw[StateT.run_set];exact zI6 ⟨rfl,h⟩
theorem ze2 (o:Nat):∀(M:List Keyed) (k:Nat) (P Z S:List Keyed) (arr:Array Keyed),arr.toList=P++Z++S->P.length=o+k->Z.length=M.length->
  ((M.zipIdx k).foldl (λa (b:Keyed×Nat)=>a.setIfInBounds (o+b.2) b.1) arr).toList=P++M++S
 |[],k,P,Z,S,arr,h,_,hz=>by
  have:Z=[]:=zW8.mp hz;subst this;exact h
 |p::M,k,P,[],S,arr,h,c,hz=>by cases hz
 |p::M,k,P,z::Z,S,arr,h,c,hz=>by
  rw[List.zipIdx_cons,List.foldl_cons];have:=ze2 o M (k+1) (P++[p]) Z S (arr.setIfInBounds (o+k) p) (by
   rw[Array.toList_setIfInBounds,h,<-c];simp) (by simp;lia) (by simpa using hz)
  rw[this];simp
theorem vt {xs ys:Array Keyed}(h:IntKeys ys)(a:∀p∈xs.toList,p∈ys.toList):IntKeys xs:=λp b=>h p (a p b)
theorem nQ (xs:Array Keyed)(P M S:List Keyed)(e:xs.toList=P++M++S){t:Nat}(h:t<M.length):K xs (P.length+t)=ky M[t]:=by
 have a:P.length+t<xs.size:=by
  have:=congrArg List.length e;simp at this;lia
 rw[wa a];have:xs[P.length+t]=xs.toList[P.length+t]'(by simpa using a):=by simp
 rw[this];simp only[e];rw[List.getElem_append_left (by simp;lia),List.getElem_append_right (by lia)];simp
theorem zA5 {xs ys:Array Keyed}{P M Z S:List Keyed}(e:xs.toList=P++M++S)(f:ys.toList=P++Z++S)(hz:M.length=Z.length){t:Nat}(h:t<P.length\/P.length+M.length<=t):K xs t=K ys t:=by
 refine K_congr ?_;rw[<-zV3,<-zV3,e,f];rcases h with h|h
 ·rw[zK8,zK8,zO6 h,zO6 h]
 ·rw[zQ5 (by simp;lia),zQ5 (by simp;lia)];simp only[zL4,hz]
section
variable {prog:Program}{w:World}{A:Around}{E:Value->Shared->Prop}{s:Shared}
theorem cR {xs:Array Keyed}{l u:Nat}(h:zP xs l u)(c:u<=xs.size):Up (xs.extract l u).toList:=by
 refine zR0.mpr λi j hi b a=>?_;simp at hi b;have:=h (l+i) (l+j) (by lia) (by lia) (by lia);rw[wa (show l+i<xs.size by lia),wa (show l+j<xs.size by lia)]at this;simpa using this
theorem ext_mem {xs:Array Keyed}{l u:Nat}(b:u<=xs.size){e:Keyed}(h:e∈(xs.extract l u).toList):∃t,l<=t/\t<u/\ky e=K xs t:=by
 obtain⟨t,a,rfl⟩:=zV7.mp h;simp at a;refine⟨l+t,by lia,by lia,?_⟩;rw[wa (show l+t<xs.size by lia)];simp
theorem cS {xs:Array Keyed}{l u t:Nat}(a:u<=xs.size)(h:t<(xs.extract l u).size):ky (xs.extract l u)[t]=K xs (l+t):=by
 have h':l+t<xs.size:=by simp at h;lia
 rw[wa h'];simp
theorem mv {st:SortSt}{i sa na pw sb nb H:Nat}{Q:Bool->SortSt->Prop}(hk:kindOf st=oneType')(hf:failedOf st=none)(B:IntKeys (arrOf st))
  (e1:(pendingOf st)[i]?=some (sa,na,pw)) (e2:(pendingOf st)[i+1]?=some (sb,nb,H)) (a4:sa+na=sb) (X:0<na) (a3:0<nb) (a5:sb+nb<=(arrOf st).size)
  (y:zP (arrOf st) sa sb) (z:zP (arrOf st) sb (sb+nb))
  (h:∀b g,b.Perm (arrOf st)->(∀t,t<sa\/sb+nb<=t->K b t=K (arrOf st) t)->zP b sa (sb+nb)->
   Q true (SortSt.mk' (kindOf st) b (((pendingOf st).setIfInBounds i (sa,na+nb,pw)).eraseIdxIfInBounds (i+1)) g (failedOf st))):
  wpS (model prog w) A E s (mergeAt' i) Q st:=by
 refine zJ3 (wpS_get ?_);rw[show(pendingOf st)[i]?=some (sa,na,pw)from e1];rw[show(pendingOf st)[i+1]?=some (sb,nb,H)from e2];dsimp only;refine zJ3 (bJ ?_);have m:∀p,kindOf (setPending st p)=oneType':=λ_=>hk;have F:sb<(arrOf st).size:=by lia
 obtain⟨t1,f1⟩:=yn B F;refine zJ3 (zD (zM6 (arrOf st) sb F) ?_);refine zJ3 (uf (m _) f1 B (show sa+na<=(arrOf st).size by lia) X (xJ λp q c j n=>y p q c j (by lia)) λk ct=>?_);have a0:=ct.le;dsimp only;have u:∀t,sa<=t->t<sa+k->∀q,sb<=q->q<sb+nb->K (arrOf st) t<=K (arrOf st) q:=λt d f q c j=>zU9 (uh ct d f) (z sb q (by lia) c j);have x:∀t,sa+k<=t->t<sb->K (arrOf st) sb<=K (arrOf st) t:=λt d f=>um ct d (by lia);by_cases M:(na-k == 0)=true
 ·rw[if_pos M];have U:na-k=0:=by simpa using M
  refine zJ9 (h (arrOf st) (gallopOf st) (zS6 _) (λ_ _=>rfl) λp q d f c=>?_);by_cases N:q<sb
  ·exact y p q d f N
  ·by_cases S:p<sb
   ·exact u p d (by lia) q (by lia) c
   ·exact z p q (by lia) f c
 rw[if_neg M];have U:k<na:=by
  have:¬na-k=0:=by simpa using M
  lia
 have I:sa+k+(na-k)-1<(arrOf st).size:=by lia
 obtain⟨t2,f2⟩:=yn B I;refine zJ3 (zD (zM6 (arrOf st) _ I) ?_);refine zJ3 (uf (m _) f2 B (show sb+nb<=(arrOf st).size by lia) (by lia) (xJ λp q c j n=>z p q c j (by lia)) λn2 o=>?_);have Y:=o.le;have T:sa+k+(na-k)-1=sb-1:=by lia
 rw[T]at o;dsimp only;have C:∀t,sb<=t->t<sb+n2->K (arrOf st) t<=K (arrOf st) (sb-1):=λt d f=>uh o d f;have l:∀q,sb+n2<=q->q<sb+nb->∀t,sa<=t->t<sb->K (arrOf st) t<=K (arrOf st) q:=λq c j t d f=>zU9 (y t (sb-1) d (by lia) (by lia)) (um o c j);by_cases L:(n2 == 0)=true
 ·rw[if_pos L];have W:n2=0:=by simpa using L
  refine zJ9 (h (arrOf st) (gallopOf st) (zS6 _) (λ_ _=>rfl) λp q d f c=>?_);by_cases N:q<sb
  ·exact y p q d f N
  ·by_cases S:p<sb
   ·exact l q (by lia) c p d S
   ·exact z p q (by lia) f c
 rw[if_neg L];have W:0<n2:=by
  have:¬n2=0:=by simpa using L
  lia
 have ix:IntKeys ((arrOf st).extract (sa+k) sb):=vt B λp J=>by
  rw[wJ]at J;exact zS0 (zQ4 J)
 have iy:IntKeys ((arrOf st).extract sb (sb+n2)):=vt B λp J=>by
  rw[wJ]at J;exact zS0 (zQ4 J)
 have ux:Up ((arrOf st).extract (sa+k) sb).toList:=cR (λp q d f c=>y p q (by lia) f c) (by lia);have uy:Up ((arrOf st).extract sb (sb+n2)).toList:=cR (λp q d f c=>z p q d f (by lia)) (by lia);have sx:((arrOf st).extract (sa+k) sb).size=na-k:=by simp;lia
 have sy:((arrOf st).extract sb (sb+n2)).size=n2:=by simp;lia
 have px:0<((arrOf st).extract (sa+k) sb).size:=by lia
 have py:0<((arrOf st).extract sb (sb+n2)).size:=by lia
 have Z:∀e∈((arrOf st).extract (sa+k) sb).toList,ky (((arrOf st).extract sb (sb+n2))[0]'(by lia))<=ky e:=λe he=>by
  obtain⟨t,d,f,c⟩:=ext_mem (by lia) he;rw[c,cS (by lia)];exact x t d f
 have q2:∀e∈((arrOf st).extract sb (sb+n2)).toList,ky e<=ky (((arrOf st).extract (sa+k) sb)[((arrOf st).extract (sa+k) sb).size-1]'(by lia)):=λe he=>by
  obtain⟨t,d,f,c⟩:=ext_mem (by lia) he;rw[c,cS (by lia),sx,show sa+k+(na-k-1)=sb-1 by lia];exact C t d f
 have fin:∀{st':SortSt} (r:Array Keyed) (g:Nat),Good ((arrOf st).extract (sa+k) sb).toList ((arrOf st).extract sb (sb+n2)).toList r.toList->
   ∃b:Array Keyed,(r.toList.zipIdx.foldl (λa (D:Keyed×Nat)=>a.setIfInBounds (sa+k+D.2) D.1) (arrOf st))=b/\b.Perm (arrOf st)/\(∀t,t<sa\/sb+nb<=t->K b t=K (arrOf st) t)/\zP b sa (sb+nb):=λ{st'} r g gd=>by
  refine⟨_,rfl,?_⟩;have lr:r.toList.length=na-k+n2:=by rw[gd.pm.length_eq,zL4,zP7,zP7,sx,sy]
  have sp:(arrOf st).toList=(arrOf st).toList.take (sa+k)++(((arrOf st).extract (sa+k) sb).toList++((arrOf st).extract sb (sb+n2)).toList)++(arrOf st).toList.drop (sb+n2):=by
   rw[wJ,wJ];have a1:(arrOf st).toList.take (sa+k)++((arrOf st).toList.take sb).drop (sa+k)=(arrOf st).toList.take sb:=by
    have:=zL6 (sa+k) ((arrOf st).toList.take sb)
    rwa [z35,zZ8 (by lia)]at this
   have a2:(arrOf st).toList.take sb++((arrOf st).toList.take (sb+n2)).drop sb=(arrOf st).toList.take (sb+n2):=by
    have:=zL6 sb ((arrOf st).toList.take (sb+n2))
    rwa [z35,zZ8 (by lia)]at this
   rw[<-zK8,a1,a2,zL6]
  have G:((arrOf st).toList.take (sa+k)).length=sa+k:=by simp;lia
  have lZ:(((arrOf st).extract (sa+k) sb).toList++((arrOf st).extract sb (sb+n2)).toList).length=r.toList.length:=by rw[gd.pm.length_eq]
  have wr:=ze2 (sa+k) r.toList 0 _ _ _ (arrOf st) sp (by rw[G];rfl) lZ;generalize r.toList.zipIdx.foldl (λa (D:Keyed×Nat)=>a.setIfInBounds (sa+k+D.2) D.1) (arrOf st)=b at wr;have v:∀t,t<sa+k\/sb+n2<=t->K b t=K (arrOf st) t:=λt ht=>zA5 wr sp lZ.symm (by rw[G];lia);have km:∀t,sa+k<=t->t<sb+n2->∃q,sa+k<=q/\q<sb+n2/\K b t=K (arrOf st) q:=λt d f=>by
   have:=nQ b _ _ _ wr (t:=t-(sa+k)) (by lia);rw[G,show sa+k+(t-(sa+k))=t by lia]at this;have hm:=gd.pm.mem_iff.mp (zT1 (show t-(sa+k)<r.toList.length by lia));rcases zK6.mp hm with hm|hm
   ·obtain⟨q,c,j,n⟩:=ext_mem (by lia) hm;exact⟨q,c,by lia,by rw[this];exact n⟩
   ·obtain⟨q,c,j,n⟩:=ext_mem (by lia) hm;exact⟨q,by lia,j,by rw[this];exact n⟩
  refine⟨?_,λt ht=>v t (by lia),λp q d f c=>?_⟩
  ·rw[zY7,wr];refine List.Perm.trans ?_ (List.Perm.of_eq sp.symm);exact zU8 _ (zN8 _ gd.pm)
  ·by_cases N:q<sa+k
   ·rw[v p (by lia),v q (by lia)];exact y p q d f (by lia)
   by_cases S:sb+n2<=p
   ·rw[v p (by lia),v q (by lia)];exact z p q (by lia) f c
   by_cases c3:p<sa+k
   ·rw[v p (by lia)];have g1:∀t,sa+k<=t->t<sb+nb->K (arrOf st) p<=K (arrOf st) t:=λt j n=>by
     by_cases V:t<sb
     ·exact y p t d (by lia) V
     ·exact u p d c3 t (by lia) n
    by_cases c5:sb+n2<=q
    ·rw[v q (by lia)];exact g1 q (by lia) c
    ·obtain⟨t,j,n,R⟩:=km q (by lia) (by lia);rw[R];exact g1 t j (by lia)
   ·by_cases c5:sb+n2<=q
    ·rw[v q (by lia)];obtain⟨t,j,n,R⟩:=km p (by lia) (by lia);rw[R];by_cases V:t<sb
     ·exact l q c5 c t (by lia) V
     ·exact z t q (by lia) (by lia) c
    ·have r1:=nQ b _ _ _ wr (t:=p-(sa+k)) (by lia);have r2:=nQ b _ _ _ wr (t:=q-(sa+k)) (by lia);rw[G,show sa+k+(p-(sa+k))=p by lia]at r1;rw[G,show sa+k+(q-(sa+k))=q by lia]at r2;rw[r1,r2];by_cases c6:p=q
     ·subst c6;exact zS9 _
     ·exact zR0.mp gd.up _ _ _ _ (by lia)
 split
 ·refine zJ3 (zk9 (m _) ix iy ux uy px py Z q2 λr g gd=>?_);obtain⟨b,O,g1,g2,g3⟩:=fin (st':=st) r g gd;refine zJ3 (zV9 (zJ3 (wpS_get (zJ9 ?_))));have:=h b g g1 g2 g3;subst O;have P:(failedOf st).isNone=true:=by rw[hf];rfl
  rw[<-P]at this;exact this
 ·refine zJ3 (zs1 (m _) ix iy ux uy px py Z q2 λr g gd=>?_);obtain⟨b,O,g1,g2,g3⟩:=fin (st':=st) r g gd;refine zJ3 (zV9 (zJ3 (wpS_get (zJ9 ?_))));have:=h b g g1 g2 g3;subst O;have P:(failedOf st).isNone=true:=by rw[hf];rfl
  rw[<-P]at this;exact this
end
def wz (xs:Array Keyed)(l u:Nat):Prop:=∀i j,l<=i->i<=j->j<u->K xs j<=K xs i
structure zv (lo:Nat)(xs ys:Array Keyed):Prop where
 perm:xs.Perm ys
 low:∀t,t<lo->K xs t=K ys t
theorem zv.refl (lo:Nat)(xs:Array Keyed):zv lo xs xs:=⟨zS6 _,λ_ _=>rfl⟩
theorem zv.trans {lo:Nat}{xs ys zs:Array Keyed}(h:zv lo xs ys)(g:zv lo ys zs):zv lo xs zs:=⟨h.perm.trans g.perm,λt a=>(h.low t a).trans (g.low t a)⟩
theorem zv.mirror {lo i j:Nat}{xs:Array Keyed}(hi:lo<=i)(a:j<=xs.size):zv lo (PyProof.Rows.mirror xs i j ((j-i) / 2)) xs:=⟨mirror_perm _ _ _ _,λt b=>by rw[K_mirror a,if_neg (by lia)]⟩
theorem yk {xs ys:Array Keyed}(h:IntKeys ys)(a:xs.Perm ys):IntKeys xs:=vt h λp=>(zY7.mp a).mem_iff.mp
theorem zP.more {xs:Array Keyed}{lo n:Nat}(h:zP xs lo (lo+n))(f:1<=n)(hn:¬K xs (lo+n)<K xs (lo+n-1)):zP xs lo (lo+(n+1)):=λi j a b e=>by
 by_cases c:j<lo+n
 ·exact h i j a b c
 ·have:j=lo+n:=by lia
  subst this;by_cases d:i=lo+n
  ·subst d;exact zS9 _
  ·exact zU9 (h i (lo+n-1) a (by lia) (by lia)) (Int.not_lt.mp hn)
theorem wz.more {xs:Array Keyed}{lo n:Nat}(h:wz xs lo (lo+n))(f:1<=n)(hn:K xs (lo+n)<=K xs (lo+n-1)):wz xs lo (lo+(n+1)):=λi j a b e=>by
 by_cases c:j<lo+n
 ·exact h i j a b c
 ·have:j=lo+n:=by lia
  subst this;by_cases d:i=lo+n
  ·subst d;exact zS9 _
  ·exact zU9 hn (h i (lo+n-1) a (by lia) (by lia))
theorem wz.flip {xs:Array Keyed}{lo n:Nat}(h:wz xs lo (lo+n))(hn:lo+n<=xs.size):zP (PyProof.Rows.mirror xs lo (lo+n) ((lo+n-lo) / 2)) lo (lo+n):=λi j a b c=>by
 rw[K_mirror hn,K_mirror hn,if_pos (by lia),if_pos (by lia)];exact h _ _ (by lia) (by lia) (by lia)
section
variable {prog:Program}{w:World}{A:Around}{E:Value->Shared->Prop}{s:Shared}
theorem ltK {st:SortSt}{i j:Nat}{Q:Option Bool->SortSt->Prop}(hk:kindOf st=oneType')(a:IntKeys (arrOf st))(hi:i<(arrOf st).size)(b:j<(arrOf st).size)
  (h:Q (some (decide (K (arrOf st) i<K (arrOf st) j))) st):wpS (model prog w) A E s (ltAt' i j) Q st:=by
 obtain⟨t,e1⟩:=yn a hi;obtain⟨u,c⟩:=yn a b;have f1:(arrOf st)[i]?=some (.int (K (arrOf st) i) t,(arrOf st)[i].2):=by rw[zM6 (arrOf st) i hi,<-e1]
 have f2:(arrOf st)[j]?=some (.int (K (arrOf st) j) u,(arrOf st)[j].2):=by rw[zM6 (arrOf st) j b,<-c]
 exact wpS_ltAt hk f1 f2 h
theorem uA {st:SortSt}{lo a nrem:Nat}{Q:AscSt->SortSt->Prop}{f:Nat->AscSt->StateT SortSt Sem (ForInStep AscSt)}(hf:∀x n,∃g,f x (none,n)=ltAt' (lo+n) (lo+n-1) >>= g/\g (some true)=pure (.done (none,n))/\g (some false)=pure (.yield (none,n+1)))
  (hk:kindOf st=oneType') (l:IntKeys (arrOf st)) (hn:lo+nrem<=(arrOf st).size) (ha:1<=a) (i:a<=nrem) (k:zP (arrOf st) lo (lo+a))
  (h:∀n,a<=n->n<=nrem->zP (arrOf st) lo (lo+n)->(n=nrem\/K (arrOf st) (lo+n)<K (arrOf st) (lo+n-1))->Q (none,n) st):wpS (model prog w) A E s (forIn [a:nrem] ((none,a):AscSt) f) Q st:=by
 refine zP1 (I:=λx c st'=>st'=st/\c=(none,x)/\zP (arrOf st) lo (lo+x)) ?_ ?_ ⟨rfl,rfl,k⟩
 ·rintro x c st' j m ⟨rfl,rfl,b⟩;obtain⟨g,e,g1,g2⟩:=hf x x;rw[e];refine zJ3 (ltK hk l (by lia) (by lia) ?_);by_cases d:K (arrOf st') (lo+x)<K (arrOf st') (lo+x-1)
  ·rw[zM1 d,g1];exact zJ9 (h x j (by lia) b (.inr d))
  ·rw[zL2 d,g2];exact zJ9 ⟨rfl,rfl,b.more (by lia) d⟩
 ·rintro c st' ⟨rfl,rfl,b⟩;rw[show max a nrem=nrem by lia]at b ⊢;exact h nrem i (zJ0 _) b (.inl rfl)
theorem eJ {β:Type}{c:Prop}[Decidable c]{X Y:StateT SortSt Sem β}{Q:β->SortSt->Prop}{st:SortSt}(R:Array Keyed->Prop)(hr:¬c->R (arrOf st))(key:∀arr,R arr->wpS (model prog w) A E s Y Q (setArr st arr))(a:c->(∀arr,R arr->wpS (model prog w) A E s Y Q (setArr st arr))->wpS (model prog w) A E s X Q st):wpS (model prog w) A E s (if c then X else Y) Q st:=by
 split
 ·rename_i h;exact a h key
 ·rename_i h;exact key _ (hr h)
theorem pV {st:SortSt}{lo nrem:Nat}{Q:Option Nat->SortSt->Prop}(hk:kindOf st=oneType')(J:IntKeys (arrOf st))(W:1<=nrem)(hn:lo+nrem<=(arrOf st).size)
  (h:∀m arr,1<=m->m<=nrem->zv lo arr (arrOf st)->zP arr lo (lo+m)->Q (some m) (setArr st arr)):wpS (model prog w) A E s (countRun' lo nrem) Q st:=by
 refine zJ3 (uA (λx n=>⟨_,rfl,rfl,rfl⟩) hk J hn (zJ0 1) W (λi j b g u=>by
                                                       have:i=j:=by lia
                                                       subst this;exact zS9 _) λn H D r N=>?_)
 dsimp only;by_cases y:(n == nrem)=true
 ·rw[if_pos y];exact zJ9 (h n (arrOf st) H D (zv.refl _ _) r)
 rw[if_neg y];have G:¬n=nrem:=by simpa using y
 have F:=N.resolve_left G;refine eJ (λd=>zv lo d (arrOf st)/\wz d lo (lo+(n+1))) (λR=>?_) (λd z=>?_) (λR key=>?_)
 ·have e:n=1:=by lia
  exact⟨zv.refl lo (arrOf st),wz.more (λi j b g u=>by
   have:i=j:=by lia
   subst this;exact zS9 _) (by lia) (zW2 F)⟩
 ·obtain⟨O,M⟩:=z;refine zJ3 (wpS_lift (zR7 ⟨rfl,?_⟩));refine zJ3 (zT8 (zP1 (I:=λx c st'=>∃arr a,st'=setArr st arr/\c=(none,x,a)/\zv lo arr (arrOf st)/\wz arr lo (lo+x)/\a+1<=x/\∀i,lo+x-(a+1)<=i->i<lo+x->K arr i=K arr (lo+x-1))
   (Q:=λc st'=>∃arr m a,st'=setArr st arr/\c=(none,m,a)/\zv lo arr (arrOf st)/\n+1<=m/\m<=nrem/\wz arr lo (lo+m)/\a+1<=m/\∀i,lo+m-(a+1)<=i->i<lo+m->K arr i=K arr (lo+m-1)) ?_ ?_ ⟨d,0,rfl,rfl,O,M,by lia,λi b g=>by congr 1;lia⟩) ?_)
  ·rintro x c st' T V ⟨arr,a,rfl,rfl,v,hd,hq,he⟩;dsimp only;have sz:=v.perm.size_eq;have C:=yk J v.perm;refine zJ3 (ltK (st:=setArr st arr) hk C (show _<arr.size by lia) (show _<arr.size by lia) ?_);by_cases L:K arr (lo+x)<K arr (lo+x-1)
   ·rw[show decide (K (arrOf (setArr st arr)) (lo+x)<K (arrOf (setArr st arr)) (lo+x-1))=true from zM1 L];dsimp only;rw[if_pos rfl];by_cases hz:a > 0
    ·rw[if_pos hz];refine zJ3 (wpS_reverse ?_);have q:=K_mirror_equal (show lo+x<=arr.size by lia) he;refine zJ9 ⟨_,0,rfl,rfl,(zv.mirror (by lia) (show lo+x<=arr.size by lia)).trans v,?_,by lia,λi b g=>by congr 1;lia⟩;intro i j b g u;show K (mirror arr _ _ _) j<=K (mirror arr _ _ _) i;rw[q,q];exact hd.more (by lia) (zW2 L) i j b g u
    ·rw[if_neg hz];exact zJ9 ⟨_,0,rfl,rfl,v,hd.more (by lia) (zW2 L),by lia,λi b g=>by congr 1;lia⟩
   ·rw[show decide (K (arrOf (setArr st arr)) (lo+x)<K (arrOf (setArr st arr)) (lo+x-1))=false from zL2 L];dsimp only;rw[if_neg (by decide)];refine zJ3 (ltK (st:=setArr st arr) hk C (show _<arr.size by lia) (show _<arr.size by lia) ?_);by_cases hg:K arr (lo+x-1)<K arr (lo+x)
    ·rw[show decide (K (arrOf (setArr st arr)) (lo+x-1)<K (arrOf (setArr st arr)) (lo+x))=true from zM1 hg];exact zJ9 ⟨arr,x,a,rfl,rfl,v,T,by lia,hd,hq,he⟩
    ·rw[show decide (K (arrOf (setArr st arr)) (lo+x-1)<K (arrOf (setArr st arr)) (lo+x))=false from zL2 hg];refine zJ9 ⟨arr,a+1,rfl,rfl,v,hd.more (by lia) (by lia),by lia,λi b g=>?_⟩;rw[show lo+(x+1)-1=lo+x by lia];by_cases c:i=lo+x
     ·subst c;rfl
     ·rw[he i (by lia) (by lia)];lia
  ·rintro c st' ⟨arr,a,rfl,rfl,v,hd,hq,he⟩;rw[show max (n+1) nrem=nrem by lia]at hd hq he ⊢;exact⟨arr,nrem,a,rfl,rfl,v,by lia,zJ0 _,hd,hq,he⟩
  ·rintro c st' ⟨arr,m,a,rfl,rfl,l,U,P,t,hq,he⟩;dsimp only;have sz:=l.perm.size_eq;refine eJ (st:=setArr st arr) (λf=>zv lo f (arrOf st)/\wz f lo (lo+m)) (λ_=>⟨l,t⟩) (λf z=>?_) (λhz key=>?_)
   ·obtain⟨l,t⟩:=z;have X:=l.perm.size_eq;refine zJ3 (wpS_reverse ?_);have B:=(zv.mirror (lo:=lo) (i:=lo) (j:=lo+m) (xs:=f) (zJ0 _) (by lia)).trans l;have S:=B.perm.size_eq;refine zJ3 (uA (st:=setArr st _) (λx n=>⟨_,rfl,rfl,rfl⟩) hk (yk J B.perm) (zK1 hn (zL7 S.symm)) (by lia) P (t.flip (by lia)) λn2 b g u _=>?_);exact zJ9 (h n2 _ (by lia) g B u)
   ·refine zJ3 (wpS_reverse ?_);have q:=K_mirror_equal (show lo+m<=arr.size by lia) he;refine key _ ⟨(zv.mirror (lo:=lo) (i:=lo+m-(a+1)) (j:=lo+m) (xs:=arr) (by lia) (by lia)).trans l,λi j b g u=>?_⟩;show K (mirror arr _ _ _) j<=K (mirror arr _ _ _) i;rw[q,q];exact t i j b g u
 ·refine zJ3 (ltK hk J (by lia) (by lia) ?_);by_cases o:K (arrOf st) lo<K (arrOf st) (lo+n-1)
  ·rw[zM1 o];exact zJ9 (h n (arrOf st) H D (zv.refl _ _) r)
  ·rw[zL2 o];dsimp only;rw[if_neg (by decide)];have p:∀k,lo<=k->k<lo+n->K (arrOf st) k=K (arrOf st) (lo+n-1):=λk b g=>by
    have a1:=r lo k (by lia) b g;have a2:=r k (lo+n-1) b (by lia) (by lia)
    lia
   refine zJ3 (wpS_reverse ?_);have q:=K_mirror_equal (show lo+n<=(arrOf st).size by lia) p;refine key _ ⟨zv.mirror (lo:=lo) (i:=lo) (j:=lo+n) (xs:=arrOf st) (zJ0 _) (by lia),wz.more (λi j b g u=>?_) (by lia) ?_⟩
   ·rw[q,q,p i (by lia) (by lia),p j (by lia) (by lia)];exact zS9 _
   ·rw[q,q];exact zW2 F
theorem zv.bubble {lo src d:Nat}{xs:Array Keyed}(a:src<xs.size)(hd:lo+d<=src):zv lo (PyProof.Rows.bubble xs src d) xs:=⟨bubble_perm _ _ _,λt b=>by rw[K_bubble a (by lia),if_neg (by lia),if_neg (by lia)]⟩
theorem rF {st:SortSt}{lo n ok:Nat}{Q:Bool->SortSt->Prop}(hk:kindOf st=oneType')(F:IntKeys (arrOf st))(hn:lo+n<=(arrOf st).size)(hok:ok<=n)(D:zP (arrOf st) lo (lo+ok))
  (h:∀arr,zv lo arr (arrOf st)->zP arr lo (lo+n)->Q true (setArr st arr)):wpS (model prog w) A E s (binarySort' lo n ok) Q st:=by
 refine zJ3 (zT8 (zP1 (I:=λk c st'=>c=(none,())/\∃arr,st'=setArr st arr/\zv lo arr (arrOf st)/\zP arr lo (lo+min k n))
  (Q:=λc st'=>c=(none,())/\∃arr,st'=setArr st arr/\zv lo arr (arrOf st)/\zP arr lo (lo+n)) ?_ ?_ ⟨rfl,arrOf st,rfl,zv.refl _ _,λi j t u B=>?_⟩) ?_)
 ·rintro k c st' L C ⟨rfl,arr,rfl,m,b⟩;rw[show min k n=k by lia]at b;have sz:=m.perm.size_eq;have v:=yk F m.perm;refine zJ3 (zT8 (zP1 (I:=λx c a=>a=setArr st arr/\∃l r,c=(none,l,r)/\l<=r/\r<=k/\r-l<=k-x/\
    (∀i,lo<=i->i<lo+l->K arr i<=K arr (lo+k))/\(∀i,lo+r<=i->i<lo+k->K arr (lo+k)<K arr i))
   (Q:=λc a=>a=setArr st arr/\∃l r,c=(none,l,r)/\l<=k/\
    (∀i,lo<=i->i<lo+l->K arr i<=K arr (lo+k))/\(∀i,lo+l<=i->i<lo+k->K arr (lo+k)<K arr i)) ?_ ?_ ⟨rfl,0,k,rfl,by lia,by lia,by lia,λi t u=>by lia,λi t u=>by lia⟩) ?_)
  ·rintro x c a _ H ⟨rfl,l,r,rfl,y,f,hm,e,d⟩;dsimp only;by_cases o:l≥r
   ·rw[if_pos o];have:l=r:=by lia
    subst this;exact zJ9 ⟨rfl,l,l,rfl,f,e,d⟩
   ·rw[if_neg o];refine zJ3 (ltK (st:=setArr st arr) hk v (show _<arr.size by lia) (show _<arr.size by lia) ?_);by_cases p:K arr (lo+k)<K arr (lo+(l+r) / 2)
    ·rw[show decide (K (arrOf (setArr st arr)) (lo+k)<K (arrOf (setArr st arr)) (lo+(l+r) / 2))=true from zM1 p];exact zJ9 ⟨rfl,l,(l+r) / 2,rfl,by lia,by lia,by lia,e,λi q z=>z38 p (b _ _ (by lia) q z)⟩
    ·rw[show decide (K (arrOf (setArr st arr)) (lo+k)<K (arrOf (setArr st arr)) (lo+(l+r) / 2))=false from zL2 p];exact zJ9 ⟨rfl,(l+r) / 2+1,r,rfl,by lia,by lia,by lia,λi q z=>zU9 (b i (lo+(l+r) / 2) q (by lia) (by lia)) (Int.not_lt.mp p),d⟩
  ·rintro c a ⟨rfl,l,r,rfl,y,f,hm,e,d⟩;have:l=r:=by lia
   subst this;exact⟨rfl,l,l,rfl,f,e,d⟩
  ·rintro c a ⟨rfl,l,r,rfl,J,e,d⟩;dsimp only;have g:lo+k<arr.size:=by lia
   refine zJ3 (zV9 (zJ9 ⟨rfl,bubble arr (lo+k) (lo+k-(lo+l)),rfl,(zv.bubble g (by lia)).trans m,λi j t u B=>?_⟩));rw[show min (k+1) n=k+1 by lia]at B;rw[K_bubble g (by lia),K_bubble g (by lia),show lo+k-(lo+k-(lo+l))=lo+l by lia]
   repeat' split
   all_goals first
    |(exfalso;lia)
    |exact zS9 _
    |exact e _ (by lia) (by lia)
    |exact zW2 (d _ (by lia) (by lia))
    |exact b _ _ (by lia) (by lia) (by lia)
 ·rintro c st' ⟨G,arr,rfl,m,b⟩;rw[show min (max (max ok 1) n) n=n by lia]at b;exact⟨G,arr,rfl,m,b⟩
 ·by_cases q:ok=0
  ·have:i=j:=by lia
   subst this;exact zS9 _
  ·exact D i j t u (by lia)
 ·rintro c st' ⟨rfl,arr,rfl,m,b⟩;exact zJ9 (h arr m b)
end
abbrev pb :=Nat×Nat×Nat
def Runs (xs:Array Keyed):List pb->Nat->Nat->Prop
 |[],l,u=>l=u
 |r::L,l,u=>r.1=l/\0<r.2.1/\zP xs l (l+r.2.1)/\Runs xs L (l+r.2.1) u
theorem Runs.le {xs:Array Keyed}:∀{L:List pb}{l u:Nat},Runs xs L l u->l+L.length<=u
 |[],l,u,h=>zL7 h
 |r::L,l,u,⟨_,h0,_,h⟩=>by
  have:=Runs.le h;simp;lia
theorem wx {xs:Array Keyed}:∀{L R:List pb}{l u:Nat},Runs xs (L++R) l u↔∃m,Runs xs L l m/\Runs xs R m u
 |[],R,l,u=>⟨λh=>⟨l,rfl,h⟩,λ⟨m,d,e⟩=>by cases d;exact e⟩
 |r::L,R,l,u=>⟨λ⟨a,b,c,h⟩=>by
   obtain⟨m,d,e⟩:=wx.mp h;exact⟨m,⟨a,b,c,d⟩,e⟩,λ⟨m,⟨a,b,c,d⟩,e⟩=>⟨a,b,c,wx.mpr ⟨m,d,e⟩⟩⟩
theorem Runs.congr {xs ys:Array Keyed}:∀{L:List pb}{l u:Nat},Runs xs L l u->(∀t,l<=t->t<u->K ys t=K xs t)->Runs ys L l u
 |[],l,u,h,_=>h
 |r::L,l,u,⟨a,b,c,h⟩,e=>by
  have:=Runs.le h;refine⟨a,b,λi j d f g=>?_,Runs.congr h λt d f=>e t (by lia) f⟩;rw[e i d (by lia),e j (by lia) (by lia)];exact c i j d f g
theorem Runs.pow {xs:Array Keyed}{pw:Nat}:∀{L:List pb}{l u:Nat} (k:Nat),Runs xs L l u->Runs xs (L.modify k λr=>(r.1,r.2.1,pw)) l u
 |[],l,u,k,h=>by simpa using h
 |r::L,l,u,0,⟨a,b,c,h⟩=>by simp;exact⟨a,b,c,h⟩
 |r::L,l,u,k+1,⟨a,b,c,h⟩=>by simp;exact⟨a,b,c,Runs.pow k h⟩
theorem Runs.all {xs:Array Keyed}:∀{L:List pb}{u:Nat},Runs xs L 0 u->L.length<=1->zP xs 0 u
 |[],u,h,_=>λi j _ _ a=>by cases h;lia
 |[r],u,⟨_,_,c,h⟩,_=>by cases h;simpa using c
 |_::_::_,_,_,h=>by simp at h
theorem cx (c:Prop)[Decidable c](a:Nat):(if c then a-1 else a)<=a:=by split<;>lia
theorem merged (P R:List pb)(x y z:pb)(p:Array pb)(h:p.toList=P++x::y::R):((p.setIfInBounds P.length z).eraseIdxIfInBounds (P.length+1)).toList=P++z::R:=by
 have e1:(p.setIfInBounds P.length z).toList=P++z::y::R:=by rw[Array.toList_setIfInBounds,h];simp
 have a:P.length+1<(p.setIfInBounds P.length z).size:=by
  have:=congrArg List.length e1;simp at this ⊢;lia
 rw[Array.eraseIdxIfInBounds,dif_pos a,Array.toList_eraseIdx,e1];rw[List.eraseIdx_append_of_length_le (by lia)];simp
section
variable {prog:Program}{w:World}{A:Around}{E:Value->Shared->Prop}{s:Shared}{a₀:Array Keyed}
theorem rh {st:SortSt}{i u:Nat}{Q:Bool->SortSt->Prop}(q:IntKeys a₀)(gb:GB a₀ st)(hr:Runs (arrOf st) (pendingOf st).toList 0 u)(z:u<=a₀.size)(hi:i+1<(pendingOf st).size)
  (h:∀st',GB a₀ st'->Runs (arrOf st') (pendingOf st').toList 0 u->(pendingOf st').size+1=(pendingOf st).size->(∀t,u<=t->K (arrOf st') t=K (arrOf st) t)->Q true st'):wpS (model prog w) A E s (mergeAt' i) Q st:=by
 have j:i+1<(pendingOf st).toList.length:=by simpa using hi
 have sp:(pendingOf st).toList=(pendingOf st).toList.take i++(pendingOf st).toList[i]::(pendingOf st).toList[i+1]::(pendingOf st).toList.drop (i+2):=by rw[<-zM4 j,<-zM4 (by lia),zL6]
 rcases hx:(pendingOf st).toList[i]with⟨sa,na,pw⟩;rcases hy:(pendingOf st).toList[i+1]with⟨sb,nb,e⟩;rw[hx,hy]at sp;have e1:(pendingOf st)[i]?=some (sa,na,pw):=by rw[<-zV3,zI7 (by lia),hx]
 have r:(pendingOf st)[i+1]?=some (sb,nb,e):=by rw[<-zV3,zI7 j,hy]
 have o:((pendingOf st).toList.take i).length=i:=by rw[zO9];lia
 generalize (pendingOf st).toList.take i=P at sp o;generalize (pendingOf st).toList.drop (i+2)=R at sp;rw[sp]at hr;obtain⟨m,k,⟨f1,c,l,f2,b,n,f⟩⟩:=wx.mp hr;dsimp only at f1 f2 c b l n f;subst f1;have:=Runs.le f;have:=Runs.le k;have sz:=gb.perm.size_eq;refine mv gb.kind gb.failed (yk q gb.perm) e1 r f2.symm c b (by lia) (by rw[f2];exact l) (by rw[f2];exact n) λa g g1 g2 g3=>?_;have d:=merged P R _ _ (sa,na+nb,pw) (pendingOf st) sp;rw[o]at d;refine h _ ⟨g1.trans gb.perm,gb.kind,gb.failed⟩ ?_ ?_ λt B=>g2 t (by lia)
 ·show Runs a (((pendingOf st).setIfInBounds i (sa,na+nb,pw)).eraseIdxIfInBounds (i+1)).toList 0 u;rw[d];refine wx.mpr ⟨sa,k.congr λt x y=>g2 t (by lia),rfl,by show 0<na+nb;lia,?_,?_⟩
  ·show zP a sa (sa+(na+nb));rw[<-Nat.add_assoc,<-f2];exact g3
  ·show Runs a R (sa+(na+nb)) u;rw[<-Nat.add_assoc];exact f.congr λt x y=>g2 t (by lia)
 ·show(((pendingOf st).setIfInBounds i (sa,na+nb,pw)).eraseIdxIfInBounds (i+1)).size+1=_;have p:=congrArg List.length d;have v:=congrArg List.length sp;simp only[zP7,zL4,zM0]at p v
  lia
structure Mid (a₀:Array Keyed)(lo n:Nat)(st:SortSt):Prop where
 gb:GB a₀ st
 rn:Runs (arrOf st) (pendingOf st).toList 0 lo
 so:zP (arrOf st) lo (lo+n)
theorem Mid.put {lo n:Nat}{st:SortSt}(h:Mid a₀ lo n st)(a:0<n):GB a₀ (setPending st ((pendingOf st).push (lo,n,0)))/\Runs (arrOf st) ((pendingOf st).push (lo,n,0)).toList 0 (lo+n):=by
 refine⟨⟨h.gb.perm,h.gb.kind,h.gb.failed⟩,?_⟩;rw[zU3];exact wx.mpr ⟨lo,h.rn,rfl,a,h.so,rfl⟩
theorem Mid.pow {lo n k pw:Nat}{st:SortSt}(h:Mid a₀ lo n st):Mid a₀ lo n (setPending st ((pendingOf st).modify k λx=>(x.fst,x.2.fst,pw))):=by
 refine⟨⟨h.gb.perm,h.gb.kind,h.gb.failed⟩,?_,h.so⟩;show Runs (arrOf st) ((pendingOf st).modify k _).toList 0 lo;rw[Array.toList_modify];exact h.rn.pow k
theorem zu3 {β:Type}{a:Nat}{X Y:Nat->StateT SortSt Sem β}{Q:β->SortSt->Prop}{st:SortSt}{b:Nat->Prop}(R:Nat->Array Keyed->Prop)(hr:∀n,b n->¬n<a->R n (arrOf st))(key:∀n arr,R n arr->wpS (model prog w) A E s (Y n) Q (setArr st arr))(d:∀n,b n->n<a->(∀n arr,R n arr->wpS (model prog w) A E s (Y n) Q (setArr st arr))->wpS (model prog w) A E s (X n) Q st):∀n,b n->wpS (model prog w) A E s (if n<a then X n else Y n) Q st:=by
 intro n c;split
 ·rename_i h;exact d n c h key
 ·rename_i h;exact key _ _ (hr n c h)
theorem ox {st:SortSt}{Q:Unit->SortSt->Prop}(C:IntKeys a₀)(B:SBase a₀ st)
  (h:∀st',(arrOf st').Perm a₀->failedOf st'=none->SortedTo (arrOf st') a₀.size->Q () st'):wpS (model prog w) A E s sortRuns' Q st:=by
 rw[sortRuns'_eq];refine zJ3 (wpS_get ?_);dsimp only;rw[B.size];generalize O:minRun' a₀.size a₀.size 0=mr;refine zJ3 (zT8 (zP1 (I:=λx c st'=>∃lo,c=(none,lo)/\GB a₀ st'/\Runs (arrOf st') (pendingOf st').toList 0 lo/\lo<=a₀.size/\x<=lo)
  (Q:=λc st'=>c=(none,a₀.size)/\GB a₀ st'/\Runs (arrOf st') (pendingOf st').toList 0 a₀.size) ?_ ?_ ⟨0,rfl,⟨B.perm,B.kind,B.failed⟩,by rw[B.pend];rfl,by lia,by lia⟩) ?_)
 ·rintro x c st' _ U ⟨lo,rfl,gb,hr,T,H⟩;dsimp only;by_cases r:lo≥a₀.size
  ·rw[if_pos r];have:lo=a₀.size:=by lia
   subst this;exact zJ9 ⟨rfl,gb,hr⟩
  rw[if_neg r];have sz:=gb.perm.size_eq;refine zJ3 (pV gb.kind (yk C gb.perm) (by lia) (show lo+(a₀.size-lo)<=(arrOf st').size by lia) λm arr m1 m2 K so=>?_);dsimp only;have N:=K.perm.size_eq;have d:GB a₀ (setArr st' arr):=⟨K.perm.trans gb.perm,gb.kind,gb.failed⟩;have v:Runs arr (pendingOf st').toList 0 lo:=hr.congr λt _ o=>K.low t o;have H0:0<m/\m<=a₀.size-lo/\zP arr lo (lo+m):=⟨m1,m2,so⟩;clear m1 m2 so
  revert m H0
  refine zu3 (st:=setArr st' arr) (λn M=>Mid a₀ lo n (setArr st' M)/\0<n/\n<=a₀.size-lo) ?_ ?_ ?_
  ·rintro m ⟨m1,m2,so⟩ _;exact⟨⟨d,v,so⟩,m1,m2⟩
  ·rintro n M ⟨b,L,nl⟩;refine zJ3 (wpS_get ?_);split
   ·refine zJ3 (zT8 (zP1 (I:=λ_ c a=>c=(none,())/\Mid a₀ lo n a) (Q:=λc a=>c=(none,())/\Mid a₀ lo n a) ?_ ?_ ⟨rfl,b⟩) ?_)
    ·rintro y c a _ _ ⟨rfl,b⟩;refine zJ3 (wpS_get ?_);split
     ·rename_i heq;have S:(pendingOf a).size > 1:=by
       by_cases c:(pendingOf a).size > 1
       ·exact c
       ·have e:(if(pendingOf a).size > 1 then(pendingOf a)[(pendingOf a).size-2]? else none)=none:=if_neg c;exact absurd (e.symm.trans heq) (by simp)
      split
      ·exact zJ9 ⟨rfl,b⟩
      ·refine zJ3 (rh C b.gb b.rn (by lia) (show(pendingOf a).size-2+1<(pendingOf a).size by lia) λG l f _ u=>?_);refine zJ9 ⟨rfl,l,f,λi j D o V=>?_⟩;rw[u i D,u j (by lia)];exact b.so i j D o V
     ·exact zJ9 ⟨rfl,b⟩
    ·rintro c a q;exact q
    ·rintro c a ⟨rfl,b⟩;dsimp only;refine zJ3 (zV9 (zJ3 (zV9 (zJ9 ?_))));have:=λpw=>(b.pow (k:=(pendingOf a).size-1) (pw:=pw)).put L;exact⟨_,rfl,(this _).1,(this _).2,by lia,by lia⟩
   ·refine zJ3 (zV9 (zJ9 ?_));have:=b.put L;exact⟨_,rfl,this.1,this.2,by lia,by lia⟩
  ·rintro m ⟨m1,m2,so⟩ P key;refine zJ3 (wpS_lift (zR7 ⟨rfl,?_⟩));refine zJ3 (rF (st:=setArr st' arr) d.kind (yk C d.perm) (show lo+min (a₀.size-lo) mr<=arr.size by lia) (by lia) so λp z F=>?_);rw[if_neg (by decide)];exact key _ p ⟨⟨⟨z.perm.trans d.perm,gb.kind,gb.failed⟩,v.congr λt _ o=>z.low t o,F⟩,by lia,by lia⟩
 ·rintro c st' ⟨lo,rfl,gb,hr,T,H⟩;have:lo=a₀.size:=by lia
  subst this;exact⟨rfl,gb,hr⟩
 ·rintro c st' ⟨rfl,gb,hr⟩;dsimp only;refine zJ3 (zT8 (zP1 (I:=λx c st'=>c=(none,())/\GB a₀ st'/\Runs (arrOf st') (pendingOf st').toList 0 a₀.size/\(pendingOf st').size<=a₀.size-x)
   (Q:=λc st'=>c=(none,())/\GB a₀ st'/\Runs (arrOf st') (pendingOf st').toList 0 a₀.size/\(pendingOf st').size<=1) ?_ ?_ ⟨rfl,gb,hr,by have:=hr.le;simpa using this⟩) ?_)
  ·rintro x c st' _ U ⟨rfl,gb,hr,g⟩;refine zJ3 (wpS_get ?_);by_cases J:(pendingOf st').size<=1
   ·rw[if_pos J];exact zJ9 ⟨rfl,gb,hr,J⟩
   ·rw[if_neg J];refine zJ3 (rh C gb hr (zJ0 _) ?_ λG l f R _=>?_)
    ·exact zK9 (Nat.succ_le_succ (cx _ _)) (show(pendingOf st').size-2+1<(pendingOf st').size by lia)
    ·exact zJ9 ⟨rfl,l,f,by lia⟩
  ·rintro c st' ⟨rfl,gb,hr,g⟩;exact⟨rfl,gb,hr,by lia⟩
  ·rintro c st' ⟨rfl,gb,hr,g⟩;dsimp only;exact zJ9 (h st' gb.perm gb.failed λi j D o=>hr.all (by simpa using g) i j (zJ8 _) D o)
end
open PyProof
section
variable {prog:Program}{w:World}{A:Around}{E:Value->Shared->Prop}{s:Shared}
theorem tree_ok {a:Addr}{vs:List Value}{ns:List Int}{n:Nat}{P:Fin->Shared->Prop}(f:s.heap.get? a=some (seqObj "list" vs.toArray n))(l:IntsAre vs ns)(v:vs.length<=1000)
  (h:∀(out:Array Value) (d:List Int),IntsAre out.toList d->d.Perm ns->d.Pairwise (·<=·)->P (.done (.ret .none)) {s with heap:=sortedHeap s.heap a vs out}):wpAny (model prog w) A (Builtin.«list.sort» ⟨[.ref a],[]⟩) P E s:=by
 by_cases g:vs.length<64
 ·exact list_sort_tree f l g h
 have ha:a<s.heap.objs.size:=zJ5 f;obtain⟨e1,k⟩:∃e1,(s.heap.update a (Obj.mapSeq λ_=>#[])).get? a=some (seqObj "list" #[] e1):=⟨_,zR1 f (λ_=>#[])⟩;have j:(((s.heap.update a (Obj.mapSeq λ_=>#[])).push (seqObj "tuple" vs.toArray 0)).push (seqObj "list" #[] 0)).get? a=some (seqObj "list" #[] e1):=by
  have n1:a≠(s.heap.update a (Obj.mapSeq λ_=>#[])).objs.size:=by rw[zY4];exact zK2 ha
  have n2:a≠((s.heap.update a (Obj.mapSeq λ_=>#[])).push (seqObj "tuple" vs.toArray 0)).objs.size:=by rw[size_push',zY4];exact zK2 (zP4 ha)
  rw[zV6 _ _ _ n2,zV6 _ _ _ n1,k]
 have i:¬vs.toArray.size<2:=by simp;lia
 obtain⟨b,c,rest,rfl⟩:∃b c rest,vs=b::c::rest:=by
  match vs,g with
  |b::c::rest,_=>exact⟨b,c,rest,rfl⟩
  |[],h=>simp at h
  |[_],h=>simp at h
 rw[list_sort_plain];have u:(b::c::rest).toArray.size<=sizeLine:=by rw[zO7,zK7];lia
 refine zI3 (listItems_at f rfl ?_);refine zI3 (zV5 f rfl ?_);refine zI3 (seqEpoch_at k rfl ?_);refine zI3 (zX8 ?_);refine zI3 (zY8 ?_);refine zN7 ?_;dsimp only;rw[if_neg i,if_neg i,keyKind_ints l];refine zI3 (zI6 (zI3 (zN9 (ox (a₀:=pairsOf (b::c::rest)) (Q:=λ_ st'=>(arrOf st').Perm (pairsOf (b::c::rest))/\failedOf st'=none/\SortedTo (arrOf st') (pairsOf (b::c::rest)).size)
  l.intKeys ⟨zS6 _,rfl,rfl,rfl⟩ λst' a1 a2 q=>⟨a1,a2,q⟩) ?_ λ_ _ e=>e)))
 rintro⟨⟨⟩,st'⟩ s' ⟨rfl,m,hf,p⟩;obtain⟨d,r,o,t⟩:=sorted_out l m p;refine zI3 (seqEpoch_at j rfl (zI3 (zV5 j rfl ?_ (hsz2:=by refine zK1 (zL7 ((Array.size_map ..).trans (m.size_eq.trans (pairsOf_size _)))) ?_;rw[zO7];lia))));rw[hf];simp only[bne_self_eq_false,zR5,zY2];exact zI6 (h _ d r o t)
end
end Tim
namespace SetW
open PySem PyProof.Rows
section
variable {prog:Program}{w:World}{A:Around}{E:Value->Shared->Prop}{s:Shared}{a:Addr}{ep:Nat}{o:Obj}{es:Array (Int×Value)}{S:Int->Bool}{m:Nat}{t:SetTable}
theorem pI {F:List Int}{Q:Value->Shared->Prop}(q:A.handled=none)(g:s.heap.get? a=some o)(x:WkO prog w o S m (yS w) es ep t)(hF:F.Nodup)(r:∀k,S k=F.any (· == k))(hm:m=F.length)(G:F.length<=1000)
  (h:∀(h':Heap) d (tk:Nat) (L:Addr) (out:Array Value) (c:Nat) (ns:List Int),s.heap.objs.size<=L->(∀c u,s.heap.get? c=some u->h'.get? c=some u)->h'.get? L=some (seqObj "list" out c)->IntsAre out.toList ns->ns.Perm F->ns.Pairwise (·<=·)->Q (.ref L) {s with heap:=h',drawn:=d,toks:=tk}):
  wpAny (model prog w) A (call (.builtin "sorted") [.ref a]) Q E s:=by
 obtain⟨ms,im,p⟩:=kr (prog:=prog) (w:=w) es.toList x.el.keys;have lm:ms.length=es.size:=by have:=IntsAre.length im;simp at this;lia
 have n:ms.Perm F:=oN hF (λk hk=>(p k).mpr ((x.mem k).mp (by rw[r];exact List.any_eq_true.mpr ⟨k,hk,by simp⟩))) (by rw[lm,x.sz,hm]);refine Calls.call_function_entry kind_sorted plain_sorted entry_sorted (args_sorted1 _) ?_;unfold Builtin.«sorted»;refine zI3 (m:=checkCount "sorted" 1 1 _) (zI6 ?_);refine zI3 (oH (by simp[q]) g x λi d tk ord sz B po=>?_);obtain⟨y,v,C⟩:=jw po im;have H:ord.length<=1000:=by
  have:=po.length_eq;have:=n.length_eq;simp at *
  lia
 refine zI3 (zY8 ?_);have b:(i.push (seqObj "list" ord.toArray 0)).get? i.objs.size=some (seqObj "list" ord.toArray 0):=zJ4 _ rfl;refine zI3 (zN7 (zP0 slot_list_sort ⟨_,b,rfl⟩ entry_list_sort (Tim.tree_ok b v H λout j a1 a2 z=>⟨_,rfl,?_⟩) (args_list_sort _)));obtain⟨e,he⟩:=sortedHeap_at (out:=out) b;refine zI6 ⟨_,rfl,h _ d tk i.objs.size out e j (zN6 sz) (λc u D=>?_) he a1 (a2.trans (C.trans n)) z⟩;have l:=B c u D;have f:=zJ5 l;rw[sortedHeap_old (zK2 f) (by rw[size_push'];exact zP4 f)];exact zI4 _ l
end
end SetW
namespace L2
open PySem PySem.Spec PyProof.Rows SetW
section
variable {X:Cx}{α:Ev}{e:Expr}{pos p p2 pos2:Pos}
theorem rC (m:X.calm=true):xx X (.builtin "sorted") (λxs H Q=>∃(l:Addr) (o:Obj) (u:HO) (zs:List Int),xs=[.ref l]/\H l=some (.frz o u)/\SW X.prog X.w o zs/\zs.length<=1000/\∀(b:Addr) (ys:List Int),H b=none->ys.Perm (wX zs)->ys.Pairwise (·<=·)->Q (.ref b) (upd H b (.lst (ys.map V.int)))):=by
 intro pins s σ H xs us Q I r h;obtain⟨l,o,u,zs,rfl,j,⟨es,ep,t,x⟩,k,q⟩:=h;obtain⟨v,rfl,i⟩:=vals1 r;cases i;have f:s.heap.get? l=some o:=(show s.heap.get? l=some o/\_ from I.hok l _ j).1;have lm:(wX zs).length<=zs.length:=firstMet_length_le _ _;refine pI (F:=wX zs) (I.ok.hd m) f x (wV _ _) (λ_=>rfl) rfl (by lia) λh' d tk L out c ns sz kp n a1 a2 g=>?_;have y:=I.laid (a:=L) (o:=.lst (ns.map V.int)) (t':=tk) kp sz ⟨by rw[zI5,a2.length_eq,zO7];lia,out.toList,c,qr a1,by simpa using n⟩;exact⟨.ref L,_,y.drw d,rfl,q _ ns (I.hok.fresh sz) a2 g⟩
theorem uS {Q:List PyData->Prop}(u:X.calm=true)(n:Gl X "sorted")(i:X.mg "sorted"=none)(hg:Gl X "set")(hm:X.mg "set"=none)(h:EvD X α e λx=>∃zs:List Int,x=.list (zs.map .int)/\zs.length<1000/\∀ys:List Int,(∀k,k∈ys↔k∈zs)->ys.Pairwise (·<·)->ys.length<=zs.length->Q (ys.map .int))
  (he:starEach [e] X.env=(false,eval e X.env)::starEach [] X.env:=by rfl) (d:starEach [.Call (.Name "set" p) [e] [] pos] X.env=(false,eval (.Call (.Name "set" p) [e] [] pos) X.env)::starEach [] X.env:=by rfl):
  EvL X α (.Call (.Name "sorted" p2) [.Call (.Name "set" p) [e] [] pos] [] pos2) Q:=λF σ H R m k=>by
 refine⟨_,vW (rC u) n i boot_sorted (zE (uc (iA u) hg hm PyProof.Rows.boot_set (zE zi yp he) (he:=he)) yp d) (he:=d),?_⟩;refine h F σ H _ m λx I H1 B t1 s C=>?_;obtain⟨zs,rfl,E,q⟩:=B;have m1:=m.kz s t1;obtain⟨l,xs,rfl,G,A⟩:=C.lst_inv;have v:=(zj G).2;rw[A.intsV]at v;refine⟨l,zs,rfl,v,by lia,λt o c sw=>?_⟩;have w:=t1.same (zU (o:=.frz o (.set (λk=>(wX zs).any (· == k)) (wX zs).length)) c);have f:=s.trans (Kz.of_same (F:=F) (zU (o:=.frz o (.set (λk=>(wX zs).any (· == k)) (wX zs).length)) c));have m2:=m.kz f w;refine⟨t,o,_,zs,rfl,zk,sw,by lia,λl2 ys g pm pw=>?_⟩;have r:ys.length<=zs.length:=by rw[pm.length_eq];exact firstMet_length_le _ _
 have nd:ys.Nodup:=pm.nodup_iff.mpr (wV _ _);have pl:ys.Pairwise (·<·):=by
  have:=pw.and nd;exact this.imp λ{a b} z=>by lia
 have av:AVs (Gz F α σ (upd H1 t (.frz o (.set (λk=>(wX zs).any (· == k)) (wX zs).length)))) (ys.map V.int) (ys.map .int):=by
  clear pm pw nd pl r
  induction ys with
  |nil=>exact .nil
  |cons y ys D=>exact .cons (.int y) D
 obtain⟨g1,g2,g3⟩:=m2.lay g av;exact k _ _ _ (q ys (λj=>pm.mem_iff.trans bW) pl r) g1 (f.trans g2) (g3.back m f w)
end
section
variable {X:Cx}{α:Ev}{a b:Expr}{pos:Pos}
end
section
variable {X:Cx}{α:Ev}{e:Expr}{kk:Nat}{p pos:Pos}{rest:List Stmt}{E:yo}
end
theorem zT.o {N P:List Str}{sc:Scope}(d:sc.kind=.function:=by rfl)(e:sc.isCoroutine=false:=by rfl)(f:sc.isGenerator=false:=by rfl)(g:N.Nodup:=by decide +kernel)(b:N.take P.length=P:=by rfl)(c:∀x∈P,sc.names.lookup x=some .local\/sc.names.lookup x=some .cell:=by decide +kernel)(a:∀y∈sc.names,y.2≠.free:=by decide +kernel):zT N P sc:=⟨d,e,f,g,b,c,a⟩
abbrev Ph :=List A->(A->Prop)->Prop
section
variable {P:Program}{w:World}{K:PySem.W.Frag}{mg:Str->Option Value}{base:Heap}
def FnD (K:PySem.W.Frag)(mg:Str->Option Value)(x:Str)(st:Stmt)(ps:List Str):Prop:=∃f fd,Fun K x x st f fd/\mg x=some (.ref f)/\Binds K fd ps []
theorem zX {x:Str}{st:Stmt}{ps:List Str}{k:Nat}{φ:List A->(A->Prop)->Prop}(N:List Str)(G:FnD K mg x st ps)
  (a:∀(f:Addr) (cdv:Value) (b:Around) (outer:List Env) (s:Shared) (H:Hp) (E:XK) (as:List A) (Q:A->Prop),N.Nodup->zI k (b.deeper (envOfC x (zf st) s.heap.objs.size f cdv))->φ as Q->
   SvS (wq CX0 P w K mg base N x (zf st) f cdv b outer s H E).nox (as.map some++List.replicate (N.length-as.length) none) (zw st) {nx:=λ_=>Q (.dat .none),rt:=Q})
  (S:zT N ps (zf st):=by exact .o) (hlen:∀as Q,φ as Q->as.length=ps.length:=by intro _ _ h;repeat first|(obtain⟨rfl,_⟩:=h;rfl)|obtain⟨_,h⟩:=h):Cal P w K mg base x (k+1) φ:=by
 obtain⟨f,fd,F,hm,hb⟩:=G;exact zH1 F hm hb S hlen λcdv b outer s H E as Q hr h=>a f cdv b outer s H E as Q S.nd hr h
theorem nu {C f:Addr}{fd:FuncData}{m d:Str}{st:Stmt}{ps:List Str}{k:Nat}{φ:List A->(A->Prop)->Prop}(N:List Str)(c:Cls K C)(e:Meth K C m f)(F:Fun K m d st f fd)(hb:Binds K fd ps [])
  (a:∀(cdv:Value) (b:Around) (outer:List Env) (s:Shared) (H:Hp) (E:XK) (as:List A) (Q:A->Prop),N.Nodup->zI k (b.deeper (envOfC d (zf st) s.heap.objs.size f cdv))->φ as Q->
   SvS (wq CX0 P w K mg base N d (zf st) f cdv b outer s H E).nox (as.map some++List.replicate (N.length-as.length) none) (zw st) {nx:=λ_=>Q (.dat .none),rt:=Q})
  (S:zT N ps (zf st):=by exact .o) (hlen:∀as Q,φ as Q->as.length=ps.length:=by intro _ _ h;repeat first|(obtain⟨rfl,_⟩:=h;rfl)|obtain⟨_,h⟩:=h):yQ P w K mg base C m (k+1) φ:=
 ⟨f,fd,ps,c,e,hb,fnA F S hlen λcdv b outer s H E as Q hr h=>a cdv b outer s H E as Q S.nd hr h⟩
end
end L2
set_option maxHeartbeats 4000000
namespace K74
open PySem PySem.Spec PyProof.Rows L2
def top (i:Nat):Stmt:=PySem.Challenge.pw_stayprice_k74_whole_tidied_books_are_ali.main.body.getD i (.Pass ⟨0,0,0,0⟩)
abbrev dB :Stmt:=top 66
abbrev gF :Stmt:=top 65
def kI :Ph:=λas Q=>∃c:Int,as=[.dat (.int c)]/\∀x y:Int,0<=y->y<4294967296->Q (.own [.int x,.int y])
section
variable {P:Program}{w:World}{K:PySem.W.Frag}{mg:Str->Option Value}{base:Heap}
theorem nY :zT ["_law_row","_law_base","_law_found","_law_number"] ["_law_row","_law_base"] (zf dB):=.o
theorem za1 {f:Addr}{fd:FuncData}(F:Fun K "_law_take" "_law_take" dB f fd):yE P w K mg base CX0 1 f fd ["_law_row","_law_base"] df:=by
 refine F.ok nY (λvs H Q E h=>?_) (λcdv A outer s H vs Q E hr h=>?_)
 ·obtain⟨t,b,c,many,rfl,_⟩:=h;rfl
 ·obtain⟨t,b,c,many,rfl,⟨n,bs,cs,⟨v,B⟩,g,hb,J,⟨x,y,rfl,D,r⟩,hn⟩,d,m,k⟩:=h;rw[v,B]at k;have l:many.natAbs.log2<9000:=log2_small d m;have g:H t=some (.lst [.int x,.int y]):=g;refine tF (λσ p=>σ=[some (.ref t),some (.int many),none,none]/\H=p)
   ⟨_,zg1 (lQ ze5 (vc xh (pv 0) yc (λ_ _=>rfl)) yc (yD _))
    (zG (qS (i:=2) nY.nd rfl (Or.inl rfl) (xf sC (vc xh (pv 0) yc (λ_ _=>rfl)) (pv 1)))
    (zG (nE (xf sX (vc xh (pv 0) yc (λ_ _=>rfl)) (pv 1)) (nP (pv 0) yc set_list))
    (tE (sS (pv 2))))) lV,?_⟩ ?_
  ·refine⟨_,rfl,t,_,0,_,rfl,rfl,SqL.of g,rfl,_,_,rfl,rfl,_,rfl,?_⟩;refine zG0 (λ_=>?_) (λ_=>⟨rfl,rfl⟩);refine⟨_,rfl,t,_,0,_,rfl,rfl,SqL.of g,rfl,_,rfl,_,_,rfl,rfl,d,?_⟩;refine⟨_,rfl,t,_,0,_,rfl,rfl,SqL.of g,rfl,_,rfl,_,_,rfl,rfl,⟨d,l⟩,?_⟩;refine⟨_,rfl,t,_,0,0,rfl,rfl,g,rfl,_,rfl,?_⟩;refine k _ _ (z32 _ (Int.ne_of_gt d)) (z01 _ d) ⟨0,[x / many,y],[x / many,y],⟨rfl,rfl⟩,zk,zk,zk,⟨_,_,rfl,D,r⟩,rfl⟩ λa o G=>by rw[zh o]
  rintro σ p ⟨rfl,rfl⟩;refine tF (λσ H1=>∃z:Int,0<=z/\z<2147483647/\σ=[some (.ref t),some (.int many),none,none]/\H1=upd H t (.lst [.int x,.int z]))
   ⟨_,nE (xf sC (xf qu (xf qG (vc xh (pv 0) yc (λ_ _=>rfl)) yc) yc) yc) (nP (pv 0) yc set_list),?_⟩ ?_
  ·refine⟨_,rfl,t,_,1,_,rfl,rfl,SqL.of g,rfl,_,_,rfl,rfl,.inl ⟨by lia,by lia⟩,_,_,rfl,rfl,_,_,rfl,rfl,(by show(0:Int)<2147483647;decide),?_⟩;exact⟨_,rfl,t,_,1,1,rfl,rfl,g,rfl,_,z32 _ (by decide),z01 _ (by decide),rfl,rfl⟩
  rintro σ H1 ⟨z,C,I,rfl,j⟩;have e:H1 t=some (.lst [.int x,.int z]):=by rw[j];exact zk
  have off:zm6 t t H H1:=λa o _=>by rw[j,zh o]
  clear j;refine tF (λσ q=>∃u:Int,σ=[some (.ref t),some (.int many),none,some (.int u)]/\H1=q)
   ⟨_,qS (i:=3) nY.nd rfl (Or.inl rfl) (xf sC (xf qu (xf qu (xf qG (vc xh (pv 0) yc (λ_ _=>rfl)) (vc xh (pv 0) yc (λ_ _=>rfl))) (xf qG yc (vc xh (pv 0) yc (λ_ _=>rfl)))) yc) yc),?_⟩ ?_
  ·exact⟨_,rfl,t,_,1,_,rfl,rfl,SqL.of e,rfl,_,rfl,t,_,1,_,rfl,rfl,SqL.of e,rfl,_,_,rfl,rfl,.inl ⟨by lia,by lia⟩,_,rfl,t,_,1,_,rfl,rfl,SqL.of e,rfl,_,_,rfl,rfl,.inl ⟨by decide,by decide⟩,_,_,rfl,rfl,_,_,rfl,rfl,_,_,rfl,rfl,(by show(0:Int)<2147483629;decide),_,rfl,rfl⟩
  rintro σ q ⟨u,rfl,rfl⟩;refine⟨_,tE (sS (xf sC (xf sX (pv 3) yc) (pv 1))),?_⟩;refine⟨_,rfl,_,_,rfl,rfl,⟨by decide,by decide +kernel⟩,_,rfl,_,_,rfl,rfl,d,?_⟩;exact k _ _ (z32 _ (Int.ne_of_gt d)) (z01 _ d) ⟨0,[x,z],[x,z],⟨rfl,rfl⟩,e,e,e,⟨_,_,rfl,C,by lia⟩,rfl⟩ off
theorem gj {f:Addr}{fd:FuncData}(hm:mg "_law_take"=some (.ref f))(hk:PySem.W.keepIn K (.ref f)=true)(hb:Binds K fd ["_law_row","_law_base"] [])(G:yE P w K mg base CX0 1 f fd ["_law_row","_law_base"] df):Cal P w K mg base "_law_take" 1 xP:=by
 refine⟨f,fd,_,hm,hk,hb,G.imp λvs H Q E h=>?_⟩;obtain⟨F,as,q,rfl,t,o,m,⟨n,rfl,h0,l,hq⟩,k⟩:=h;cases m with
 |cons a1 r=>
  obtain⟨a,b,c,e,rfl⟩:=a1;obtain⟨v,rfl,av⟩:=r.one;cases av.int_inv;refine⟨a,b,c,n,rfl,(t a b c e).1,h0,l,λz H' j i TA off=>k _ _ _ (hq z j i) ⟨⟨(by
   obtain⟨_,_,_,_,e1,g,_⟩:=(t a b c e).1.ex;exact zb6 t.tab e1 g off),t.ot,λt' p c' d=>?_⟩,λy u hy n=>?_,.int z⟩⟩
  ·rw[e]at d;cases d;exact⟨TA,(t a b c e).2⟩
  ·rw[off y (n.1 _ _ _ e).1 (n.1 _ _ _ e).2];exact hy
theorem jS (F:FnD K mg "_law_begin" gF ["_law_cell"]):Cal P w K mg base "_law_begin" 1 kI:=by
 refine zX ["_law_cell"] F λ_ _ _ _ _ _ _ _ Q nd hr h=>?_;obtain⟨c,rfl,q⟩:=h;refine va (zj0 (zg 0 rfl (uI (r:=1000000000000000000) ⟨by decide,by decide,by decide⟩ (by decide) ⟨_,_,rfl,rfl,?_⟩)));refine gJ (λ_=>?_) (λ_=>zt ?_)
 ·exact xS (yL (zm (nF (zg 0 rfl (uI (r:=1000000000000000000) ⟨by decide,by decide,by decide⟩ (by decide) ⟨_,_,rfl,rfl,zm (yg (zx ⟨_,rfl,zP9 rfl,q _ _ (by decide) (by decide)⟩))⟩)))))
 ·refine xS (yL (zm (yg (zm (pf (gu (zg 0 rfl (yg ⟨_,_,rfl,rfl,by decide,yg ⟨_,_,rfl,rfl,zx ⟨_,rfl,zP9 rfl,?_⟩⟩⟩))))))));have a:=z32 c (show(2147483629:Int)≠0 by decide);have b:=z01 c (show(0:Int)<2147483629 by decide);exact q _ _ (by lia) (by lia)
end
end K74
set_option compiler.extract_closed false
set_option hygiene false in
local macro_rules
 |`(tactic| exists $f,$a)=>`(tactic| first|refine $f 0 $a ?_|refine $f 1 $a ?_|refine $f 2 $a ?_|refine $f 3 $a ?_|refine $f 4 $a ?_|refine $f 5 $a ?_|refine $f 6 $a ?_|refine $f 7 $a ?_|refine $f 8 $a ?_|refine $f 9 $a ?_|refine $f 10 $a ?_|refine $f 11 $a ?_|refine $f 12 $a ?_|refine $f 13 $a ?_|refine $f 14 $a ?_|refine $f 15 $a ?_|refine $f 16 $a ?_|refine $f 17 $a ?_)
 |`(tactic| exists $f)=>`(tactic| with_reducible refine $f ?_)
 |`(tactic| specialize $p)=>`(tactic| with_reducible show $p)
set_option hygiene false in
local macro_rules
 |`(tactic| and_intros)=>`(tactic| repeat (first
  |((specialize EvD _ _ _ _);first
   |((specialize EvD _ _ (.Name _ _) _);exists zg,rfl)
   |((specialize EvD _ _ (.Constant _ _ _) _);first|exists yg|exists vo|exists cu|exists nN)
   |((specialize EvD _ _ (.BinOp (.Constant (.int 10) _ _) .Pow (.Constant (.int 6) _ _) _) _);refine uI (r:=1000000) ⟨by decide,by decide,by decide⟩ (by decide) ?_)
   |((specialize EvD _ _ (.BinOp (.Constant (.int 10) _ _) .Pow (.Constant (.int 12) _ _) _) _);refine uI (r:=1000000000000) ⟨by decide,by decide,by decide⟩ (by decide) ?_)
   |((specialize EvD _ _ (.BinOp (.Constant (.int 10) _ _) .Pow (.Constant (.int 9) _ _) _) _);refine uI (r:=1000000000) ⟨by decide,by decide,by decide⟩ (by decide) ?_)
   |((specialize EvD _ _ (.BinOp (.Constant (.int 10) _ _) .Pow (.Constant (.int 11) _ _) _) _);refine uI (r:=100000000000) ⟨by decide,by decide,by decide⟩ (by decide) ?_)
   |((specialize EvD _ _ (.BinOp _ .Add (.List _ _) _) _);refine EvL.d (vp ?_))
   |((specialize EvD _ _ (.BinOp (.List _ _) .Add _ _) _);refine EvL.d (vp ?_))
   |((specialize EvD _ _ (.BinOp (.Subscript _ (.Slice _ _ none _) _) .Add _ _) _);refine EvL.d (vp ?_))
   |((specialize EvD _ _ (.BinOp _ .Add (.Subscript _ (.Slice _ _ none _) _) _) _);refine EvL.d (vp ?_))
   |((specialize EvD _ _ (.BinOp (.Call (.Attribute _ "rules" _) _ _ _) .Add _ _) _);refine EvL.d (vp ?_))
   |exists pf
   |exists nF
   |exists gu
   |exists zc1
   |exists zr6
   |exists ev_shl
   |exists zu7
   |exists zu2
   |exists nG
   |((specialize EvD _ _ (.Subscript _ (.Slice _ _ none _) _) _);refine EvL.d (zi4 ?_))
   |((specialize EvD _ _ (.Subscript _ _ _) _);refine zl8 hr.one (fun _ _=>rfl) ?_)
   |((specialize EvD _ _ (.List _ _) _);refine EvL.d (yL ?_))
   |((specialize EvD _ _ (.Call (.Name "len" _) [.Call (.Name "set" _) _ _ _] _ _) _);refine ev_lenSet rfl (by rfl) nb.len (by rfl) (by assumption) ?_)
   |((specialize EvD _ _ (.Call (.Name "len" _) _ _ _) _);refine qL (by rfl) nb.len ?_)
   |((specialize EvD _ _ (.Call (.Name "min" _) [_,_] _ _) _);refine zt4 rfl (by rfl) nb.min ?_)
   |((specialize EvD _ _ (.Call (.Name "max" _) [_,_] _ _) _);refine zp2 rfl (by rfl) nb.max ?_)
   |((specialize EvD _ _ (.Call (.Name "list" _) _ _ _) _);refine EvL.d (el_list (by rfl) nb.list ?_))
   |((specialize EvD _ _ (.Call (.Name "repr" _) _ _ _) _);refine ev_repr hr.gd hr.units (by rfl) nb.repr ?_)
   |((specialize EvD _ _ (.Call (.Name "min" _) [_] _ _) _);refine ev_minI rfl hr.few (by rfl) nb.min ?_)
   |((specialize EvD _ _ (.Call (.Name "isinstance" _) _ _ _) _);first|refine tV (by rfl) nb.isinstance (by rfl) nb.int boot_int ?_|refine tV (by rfl) nb.isinstance (by rfl) nb.bool boot_bool ?_|refine tV (by rfl) nb.isinstance (by rfl) nb.str boot_str ?_|refine tV (by rfl) nb.isinstance (by rfl) nb.list boot_list ?_|refine tV (by rfl) nb.isinstance (by rfl) nb.tuple boot_tuple ?_)
   |((specialize EvD _ _ (.Call (.Name "int" _) _ _ _) _);refine ev_intB (by rfl) nb.int ?_)
   |((specialize EvD _ _ (.Call (.Name _ _) _ _ _) _);first|refine bw (by with_reducible assumption) (by exact⟨rfl,rfl,rfl,rfl,rfl⟩) (hr.mono (by decide)) (by rfl) ?_|refine EvN.d (cW (by with_reducible assumption) (by exact⟨rfl,rfl,rfl,rfl,rfl⟩) (hr.mono (by decide)) (by rfl) ?_))
   |((specialize EvD _ _ (.Call (.Attribute _ _ _) (_::_) _ _) _);refine dC (by with_reducible assumption) (by exact⟨rfl,rfl,rfl,rfl,rfl⟩) (hr.mono (by decide)) ?_)
   |((specialize EvD _ _ (.Call (.Attribute _ _ _) [] _ _) _);refine jM (by with_reducible assumption) (by exact⟨rfl,rfl,rfl,rfl,rfl⟩) (hr.mono (by decide)) ?_)
   |((specialize EvD _ _ (.Compare _ [_] _ _) _);first|exists zg3|exists zx8|exists ev_gt|exists ev_ge|exists zr5|exists ev_notN|((specialize EvD _ _ (.Compare _ [.Eq] _ _) _);refine zm9 hr.units ?_)|((specialize EvD _ _ (.Compare _ [.NotEq] _ _) _);refine ev_nek hr.units ?_)|((specialize EvD _ _ (.Compare _ [.In] _ _) _);refine ev_ink hr.one ?_)|((specialize EvD _ _ (.Compare _ [.NotIn] _ _) _);refine ev_nink hr.one ?_)|((specialize EvD _ _ (.Compare _ [.Is] [.Constant (.bool _) _ _] _) _);refine ev_isB ?_))
   |((specialize EvD _ _ (.Compare _ [_,_] _ _) _);first|refine ev_lelt ?_|refine ev_ltle ?_|refine fc ?_)
   |((specialize EvD _ _ (.BoolOp _ _ _) _);first|exists zu8|exists zC3|exists zo6)
   |exists ml)
  |((specialize EvA _ _ _ _);first
   |exists zx
   |((specialize EvA _ _ (.Name "_law_row" _::_) _);exists bz,rfl)
   |refine zm ?_)
  |((specialize EvT _ _ _ _);first
   |((specialize EvT _ _ (.Compare _ [_] _ _) _);first|exists zw6|exists et_le|exists zc3|exists zj0|exists ve|exists lM|((specialize EvT _ _ (.Compare _ [.Eq] _ _) _);refine zp6 hr.units ?_)|((specialize EvT _ _ (.Compare _ [.NotEq] _ _) _);refine zk6 hr.units ?_)|((specialize EvT _ _ (.Compare _ [.In] _ _) _);refine zt1 hr.one ?_)|((specialize EvT _ _ (.Compare _ [.NotIn] _ _) _);refine et_nink hr.one ?_)|((specialize EvT _ _ (.Compare _ [.Is] [.Constant (.bool _) _ _] _) _);refine et_isB ?_)|((specialize EvT _ _ (.Compare _ [.IsNot] [.Constant (.bool _) _ _] _) _);refine et_isntB ?_))
   |((specialize EvT _ _ (.Compare _ [_,_] _ _) _);first|refine et_lelt ?_|refine et_ltle ?_|refine hV ?_)
   |exists cX
   |((specialize EvT _ _ (.BoolOp _ _ _) _);exists EvW.t)
   |refine eS ?_)
  |((specialize EvL _ _ _ _);first
   |exists yL
   |((specialize EvL _ _ (.Call (.Name "list" _) _ _ _) _);refine el_list (by rfl) nb.list ?_)
   |((specialize EvL _ _ (.Call (.Name _ _) _ _ _) _);refine aR (by with_reducible assumption) (by exact⟨rfl,rfl,rfl,rfl,rfl⟩) (hr.mono (by decide)) (by rfl) ?_)
   |((specialize EvL _ _ (.Call (.Attribute _ _ _) [] _ _) _);refine el_meth0R (by with_reducible assumption) (by exact⟨rfl,rfl,rfl,rfl,rfl⟩) (hr.mono (by decide)) ?_)
   |((specialize EvL _ _ (.Subscript _ (.Slice _ _ none _) _) _);refine zi4 ?_)
   |((specialize EvL _ _ (.BinOp _ .Add _ _) _);refine vp ?_))
  |((specialize EvW _ _ _ _);first
   |exists lq
   |exists zv9
   |exists je
   |exists zm4)
  |((specialize EvO _ _ _ _);first
   |exists za8
   |exists ao)
  |((specialize dR _ _ _);first
   |refine ixk rfl rfl rfl ?_
   |refine ixk_0 ?_
   |refine ixk_1 ?_)
  |((specialize zp3 _ _ _ _);first
   |refine ink rfl rfl ?_
   |refine ink_hind ?_
   |refine zF2 rfl rfl ?_)
  |((specialize pA _ _ _);first
   |exists ai
   |exists aJ
   |exists eqk_bool
   |refine eqk rfl rfl rfl rfl ?_)
  |((specialize SvS _ _ _ _);first
   |((specialize SvS _ (List.set _ _ _) _ _);dsimp only[List.set])
   |((specialize SvS _ _ (zw _) _);show SvS _ _ (_::_) _)
   |((specialize SvS _ _ (.Assign [.Name _ _] (.List [] _) _::_) _);exists yz,nd)
   |((specialize SvS _ _ (.Assign [.Name _ _] _ _::_) _);exists yU,nd)
   |((specialize SvS _ _ (.Expr (.Call (.Attribute _ "append" _) _ _ _) _::_) _);exists wK,rfl)
   |((specialize SvS _ _ (.Return (some (.Name _ _)) _::_) _);exists xy,rfl)
   |exists yV
   |exists sv_cont
   |exists sv_pass
   |exists va
   |exists zt
   |((with_reducible refine qI ?hk ?_);case hk=>first|rfl|decide +kernel)
   |((with_reducible refine xu ?hk ?_);case hk=>first|rfl|decide +kernel))
  |((specialize xP _ _);refine⟨_,rfl,by first|decide|lia,by first|decide|(show _<big;unfold big;lia),fun _ _ _=>?_⟩)
  |((with_reducible refine zg2 ?hk ?_);case hk=>first|rfl|decide +kernel)
  |((with_reducible refine zD8 ?hk ?_);case hk=>first|rfl|decide +kernel)
  |refine⟨_,_,rfl,rfl,?_⟩
  |refine⟨_,_,_,rfl,rfl,rfl,?_⟩
  |refine⟨_,rfl,zP9 rfl,?_⟩
  |refine⟨_,rfl,rfl,?_⟩
  |refine⟨_,rfl,?_⟩))
namespace K74
open PySem PySem.Spec PyProof.Rows L2
abbrev eO :Stmt:=top 3
abbrev kM :Stmt:=top 4
abbrev zk1 :Stmt:=top 5
abbrev zz8 :Stmt:=top 6
abbrev zi8 :Stmt:=top 7
abbrev og :Stmt:=top 8
abbrev zf2 :Stmt:=inClass (top 22) 0
abbrev zh8 :Stmt:=inClass (top 22) 2
abbrev dO :Stmt:=inClass (top 22) 3
abbrev aQ :Stmt:=inClass (top 23) 0
abbrev zt3 :Stmt:=inClass (top 24) 0
abbrev zG4 :Stmt:=inClass (top 25) 0
abbrev br :Stmt:=inClass (top 26) 0
abbrev zl1 :Stmt:=inClass (top 27) 0
abbrev zs8 :Stmt:=inClass (top 28) 0
abbrev zA4 :Stmt:=inClass (top 29) 0
abbrev gr :Stmt:=top 31
abbrev lR :Stmt:=top 32
abbrev dW :Stmt:=top 33
abbrev kN :Stmt:=top 34
abbrev zg5 :Stmt:=top 35
abbrev lS :Stmt:=top 36
theorem uQ (d:PyData):zK (.str "price") d=(isNone d||sU d):=rfl
theorem sZ (d:PyData):zK (.str "come") d=isBool d:=rfl
theorem nj (d:PyData):zK (.str "go") d=isBool d:=rfl
theorem uL (d:PyData):zK (.str "least") d=yy 1 14 d:=rfl
theorem su (d:PyData):zK (.str "most") d=yy 1 14 d:=rfl
theorem tO (d:PyData):zK (.str "deal") d=(isNone d||uK d):=rfl
theorem rL (d:PyData):zK (.str "fee") d=sU d:=rfl
theorem zy {lo hi:Int}{d:PyData}(h:yy lo hi d=true):∃i,d=.int i/\lo<=i/\i<=hi:=by
 cases d with
 |int i=>exact⟨i,rfl,zX6 (zT9.mp h).1,zX6 (zT9.mp h).2⟩
 |_=>cases h
theorem bool_inv {d:PyData}(h:isBool d=true):∃b,d=.bool b:=by
 cases d with
 |bool b=>exact⟨b,rfl⟩
 |_=>cases h
theorem wG {d:PyData}(h:uK d=true):∃m f:Int,d=.tuple [.int m,.int f]/\2<=m/\m<=14/\1<=f/\f<=m-1:=by
 unfold uK at h;split at h
 ·obtain⟨g,i⟩:=zT9.mp h;obtain⟨_,rfl,a,j⟩:=zy i;obtain⟨_,e,b,c⟩:=zy g;cases e;exact⟨_,_,rfl,b,c,a,j⟩
 ·cases h
theorem none_or {d:PyData}{p:Bool}(h:(isNone d||p)=true):d=.none\/p=true:=by
 cases d with
 |none=>exact .inl rfl
 |_=>exact .inr h
theorem zL {d:PyData}(h:zN d=true):∃(s:Str) (i j:Int) (v:PyData),s∈words/\d=.tuple [.str s,.int i,.int j,v]/\0<=i/\i<=j/\j<=1000000/\zK (.str s) v=true:=by
 obtain⟨s,a,b,v,l,rfl⟩:=uO h;obtain⟨c,g⟩:=zT9.mp (show(wj (.tuple [a,b])&&zK (.str s) v)=true from h);unfold wj zr4 at c;split at c
 ·rename_i k e;split at e
  ·rename_i z;cases z;split at e
   ·rename_i q;cases e;obtain⟨m,f⟩:=zT9.mp q;obtain⟨_,e1,o,a1⟩:=zy m;obtain⟨_,n,r,p⟩:=zy f;cases e1;cases n;have:=zX6 c;exact⟨s,_,_,v,l,rfl,o,by lia,p,g⟩
   ·cases e
  ·cases e
 ·cases c
theorem vh {s:Str}{v:PyData}(a:s∈words)(h:zK (.str s) v=true):v.hasDict=false/\noL v=true:=by
 have w:∀{lo hi:Int},yy lo hi v=true->v.hasDict=false/\noL v=true:=λz=>by obtain⟨_,rfl,_⟩:=zy z;exact⟨rfl,rfl⟩
 have b:isBool v=true->v.hasDict=false/\noL v=true:=λz=>by obtain⟨_,rfl⟩:=bool_inv z;exact⟨rfl,rfl⟩
 simp only[words,zJ1,zK5,zN1]at a;rcases a with rfl|rfl|rfl|rfl|rfl|rfl|rfl
 ·rcases none_or h with rfl|h
  ·exact⟨rfl,rfl⟩
  ·exact w h
 ·exact b h
 ·exact b h
 ·exact w h
 ·exact w h
 ·rcases none_or h with rfl|h
  ·exact⟨rfl,rfl⟩
  ·obtain⟨_,_,rfl,_⟩:=wG h;exact⟨rfl,rfl⟩
 ·exact w h
def zj3 :Ph:=λas Q=>∃i:Int,as=[.dat (.int i)]/\Q (.dat (.bool true))
def eE :Ph:=λas Q=>∃i lo hi:Int,as=[.dat (.int i),.dat (.int lo),.dat (.int hi)]/\lo<=i/\i<=hi/\Q (.dat (.bool true))
def zs7 :Ph:=λas Q=>∃i j:Int,as=[.dat (.tuple [.int i,.int j])]/\Q (.dat (.bool true))
def zx1 :Ph:=λas Q=>∃i:Int,as=[.dat (.int i)]/\0<=i/\i<=1000000/\Q (.dat (.bool true))
def bY :Ph:=λas Q=>∃i j:Int,as=[.dat (.tuple [.int i,.int j])]/\0<=i/\i<=j/\j<=1000000/\Q (.dat (.bool true))
def zy3 :Ph:=λas Q=>∃d,as=[.dat d]/\sU d=true/\Q (.dat (.bool true))
def zC8 :Ph:=λas Q=>∃d,as=[.dat d]/\uK d=true/\Q (.dat (.bool true))
def zx9 :Ph:=λas Q=>∃s d,as=[.dat (.str s),.dat d]/\s∈words/\zK (.str s) d=true/\Q (.dat (.bool true))
def zz3 :Ph:=λas Q=>∃d,as=[.dat d]/\zN d=true/\Q (.dat (.bool true))
section
variable {P:Program}{w:World}{K:PySem.W.Frag}{mg:Str->Option Value}{base:Heap}{cs:Cs}
theorem bZ (F:FnD K mg "is_whole" eO ["thing"])(nb:NbT mg):Cal P w K mg base "is_whole" 1 zj3:=by
 refine zX ["thing"] F λ_ _ _ _ _ _ _ _ Q nd hr h=>?_;obtain⟨i,rfl,q⟩:=h;and_intros;exact q
theorem ma (F:FnD K mg "is_whole_within" kM ["thing","lowest","highest"])(c:Cal P w K mg base "is_whole" 1 zj3):Cal P w K mg base "is_whole_within" 2 eE:=by
 refine zX ["thing","lowest","highest"] F λ_ _ _ _ _ _ _ _ Q nd hr h=>?_;obtain⟨i,lo,hi,rfl,a,b,q⟩:=h;and_intros;refine zg2 (zM1 a) ?_;and_intros;rw[zM1 b];exact q
theorem dF (F:FnD K mg "is_pair" zk1 ["thing"])(nb:NbT mg):Cal P w K mg base "is_pair" 1 zs7:=by
 refine zX ["thing"] F λ_ _ _ _ _ _ _ _ Q nd hr h=>?_;obtain⟨i,j,rfl,q⟩:=h;and_intros;exact q
theorem ic (F:FnD K mg "is_day" zz8 ["thing"])(gl:∃t,mg "LAST_DAY"=some (.int 1000000 t))(c:Cal P w K mg base "is_whole_within" 2 eE):Cal P w K mg base "is_day" 3 zx1:=by
 refine zX ["thing"] F λ_ _ _ _ _ _ _ _ Q nd hr h=>?_;obtain⟨i,rfl,b,a,q⟩:=h;and_intros;exact yC (by rfl) gl (zx ⟨_,_,_,rfl,b,a,q⟩)
theorem gB (F:FnD K mg "is_pair_of_days" zi8 ["thing"])(d:Cal P w K mg base "is_pair" 1 zs7)(c:Cal P w K mg base "is_day" 3 zx1):Cal P w K mg base "is_pair_of_days" 4 bY:=by
 refine zX ["thing"] F λ_ _ _ _ _ _ _ _ Q nd hr h=>?_;obtain⟨i,j,rfl,b,e,a,q⟩:=h;and_intros;refine⟨_,_,rfl,?_⟩;and_intros;refine⟨b,by lia,?_⟩;and_intros;exact⟨by lia,a,q⟩
theorem oy (F:FnD K mg "is_stretch" og ["thing"])(d:Cal P w K mg base "is_pair_of_days" 4 bY):Cal P w K mg base "is_stretch" 5 bY:=by
 refine zX ["thing"] F λ_ _ _ _ _ _ _ _ Q nd hr h=>?_;obtain⟨i,j,rfl,c,a,b,q⟩:=h;and_intros;refine⟨_,_,rfl,c,a,b,?_⟩;and_intros;rw[zM1 a];exact q
theorem pJ (F:FnD K mg "is_coins" gr ["thing"])(gl:∃t,mg "MOST_COINS"=some (.int 1000000000000 t))(c:Cal P w K mg base "is_whole_within" 2 eE):Cal P w K mg base "is_coins" 3 zy3:=by
 refine zX ["thing"] F λ_ _ _ _ _ _ _ _ Q nd hr h=>?_;obtain⟨d,rfl,h,q⟩:=h;obtain⟨i,rfl,b,a⟩:=zy h;and_intros;exact yC (by rfl) gl (zx ⟨_,_,_,rfl,b,a,q⟩)
theorem nX (F:FnD K mg "is_deal" lR ["thing"])(gl:∃t,mg "MOST_NIGHTS"=some (.int 14 t))(g:Cal P w K mg base "is_pair" 1 zs7)(i:Cal P w K mg base "is_whole_within" 2 eE):Cal P w K mg base "is_deal" 3 zC8:=by
 refine zX ["thing"] F λ_ _ _ _ _ _ _ _ Q nd hr h=>?_;obtain⟨d,rfl,h,q⟩:=h;obtain⟨m,f,rfl,a,b,c,e⟩:=wG h;and_intros;refine⟨_,_,rfl,?_⟩;and_intros;refine yC (by rfl) gl (zx ⟨_,_,_,rfl,a,b,?_⟩);and_intros;exact⟨_,_,_,rfl,c,e,q⟩
theorem oT (F:FnD K mg "is_worth" dW ["word","thing"])(nb:NbT mg)(gl:∃t,mg "MOST_NIGHTS"=some (.int 14 t))(g:Cal P w K mg base "is_whole_within" 2 eE)(k:Cal P w K mg base "is_coins" 3 zy3)(j:Cal P w K mg base "is_deal" 3 zC8):Cal P w K mg base "is_worth" 4 zx9:=by
 refine zX ["word","thing"] F λ_ _ _ _ _ _ _ _ Q nd hr h=>?_;obtain⟨s,d,rfl,e,h,q⟩:=h;simp only[words,zJ1,zK5,zN1]at e;rcases e with rfl|rfl|rfl|rfl|rfl|rfl|rfl
 ·rcases none_or h with rfl|h
  ·and_intros;exact q
  ·obtain⟨i,rfl,_⟩:=zy h;and_intros;exact⟨h,q⟩
 ·obtain⟨b,rfl⟩:=bool_inv h;and_intros;exact q
 ·obtain⟨b,rfl⟩:=bool_inv h;and_intros;exact q
 ·obtain⟨i,rfl,c,a⟩:=zy h;and_intros;exact yC (by rfl) gl (zx ⟨_,_,_,rfl,c,a,q⟩)
 ·obtain⟨i,rfl,c,a⟩:=zy h;and_intros;exact yC (by rfl) gl (zx ⟨_,_,_,rfl,c,a,q⟩)
 ·rcases none_or h with rfl|h
  ·and_intros;exact q
  ·obtain⟨m,f,rfl,_⟩:=wG h;and_intros;exact⟨h,q⟩
 ·and_intros;exact⟨h,q⟩
theorem mG (F:FnD K mg "is_rule" kN ["thing"])(nb:NbT mg)(k:Cal P w K mg base "is_stretch" 5 bY)(g:Cal P w K mg base "is_worth" 4 zx9):Cal P w K mg base "is_rule" 6 zz3:=by
 refine zX ["thing"] F λ_ _ _ _ _ _ _ _ Q nd hr h=>?_;obtain⟨d,rfl,h,q⟩:=h;obtain⟨s,i,j,v,a,rfl,c,e,f,b⟩:=zL h;have hf:=(vh a b).1;and_intros;refine⟨true,by simp[PyData.hasDict,PyData.hasDictAll,hf],rfl,?_⟩;and_intros;refine⟨_,_,rfl,c,e,f,?_⟩;and_intros;exact⟨_,_,rfl,a,b,q⟩
def uU (C:Addr)(a b v:PyData):PyData:=wy C [(.str "first",a),(.str "last",b),(.str "worth",v)]
def vO (cs:Cs):PyData->PyData
 |.tuple [.str w,a,b,v]=>uU (cs.of w) a b v
 |_=>.none
def oR (C:Addr):Ph:=λas Q=>∃a b v,as=[.dat a,.dat b,.dat v]/\noL a=true/\noL b=true/\noL v=true/\Q (.dat (uU C a b v))
def zE0 (cs:Cs):Ph:=λas Q=>∃s a b v,as=[.dat (.str s),.dat a,.dat b,.dat v]/\s∈words/\noL a=true/\noL b=true/\noL v=true/\Q (.dat (uU (cs.of s) a b v))
def pT (cs:Cs):Ph:=λas Q=>∃d,as=[.dat d]/\zN d=true/\Q (.dat (vO cs d))
def lj (C:Addr)(w:Str):Ph:=λas Q=>∃a b v,as=[.dat (uU C a b v)]/\Q (.dat (.tuple [.str w,a,b,v]))
def qE (C:Addr)(w:Str):Ph:=λas Q=>∃a b v,as=[.dat (uU C a b v)]/\Q (.dat (.str w))
def sr (C:Addr):Ph:=λas Q=>∃(a b day:Int) (v:PyData),as=[.dat (uU C (.int a) (.int b) v),.dat (.int day)]/\Q (.dat (.bool (decide (a<=day)&&decide (day<=b))))
theorem dD (F:FnD K mg "made" zg5 ["word","first","last","worth"])(l:vk P w K mg base "Price" 1 [] (oR cs.price))(f:vk P w K mg base "Come" 1 [] (oR cs.come))(e:vk P w K mg base "Go" 1 [] (oR cs.go))(g:vk P w K mg base "Least" 1 [] (oR cs.least))(k:vk P w K mg base "Most" 1 [] (oR cs.most))(i:vk P w K mg base "Deal" 1 [] (oR cs.deal))(j:vk P w K mg base "Fee" 1 [] (oR cs.fee)):Cal P w K mg base "made" 3 (zE0 cs):=by
 refine zX ["word","first","last","worth"] F λ_ _ _ _ _ _ _ _ Q nd hr h=>?_;obtain⟨s,a,b,v,rfl,c,ha,hb,d,q⟩:=h;simp only[words,zJ1,zK5,zN1]at c;rcases c with rfl|rfl|rfl|rfl|rfl|rfl|rfl<;>and_intros<;>exact⟨_,_,_,rfl,ha,hb,d,q⟩
theorem mK (F:FnD K mg "rule_of" lS ["thing"])(CR:Cal P w K mg base "is_rule" 6 zz3)(g:Cal P w K mg base "made" 3 (zE0 cs)):Cal P w K mg base "rule_of" 7 (pT cs):=by
 refine zX ["thing"] F λ_ _ _ _ _ _ _ _ Q nd hr h=>?_;obtain⟨d,rfl,h,q⟩:=h;obtain⟨s,i,j,v,a,rfl,c,e,f,b⟩:=zL h;and_intros;refine⟨h,?_⟩;and_intros;exact⟨_,_,_,_,rfl,a,rfl,rfl,(vh a b).2,q⟩
theorem yI {x:Str}{C f fT fE fW:Addr}{fd:FuncData}(R:tf K C f fT fE fW)(hm:mg x=some (.ref C))(F:Fun K "__init__" "Rule.__init__" zf2 f fd)(hb:Binds K fd ["self","first","last","worth"] []):vk P w K mg base x 1 [] (oR C):=by
 refine⟨C,f,fd,_,[],hm,R.makes,hb,.nil,F.ok (N:=["self","first","last","worth"]) .o (λvs H Q E h=>?_) (λcdv A outer s H vs Q E hr h=>?_)⟩
 ·obtain⟨_,as,_,_,_,_,_,rfl,_,_,_,_,_,_,_,c,⟨a,b,v,rfl,_⟩,_⟩:=h;exact congrArg (·+1) c.length
 ·obtain⟨G,as,S,p,dx,O,H1,rfl,g,L,hn,rfl,rfl,t,o,c,⟨a,b,v,rfl,n1,n2,B,q⟩,M⟩:=h;cases c with
  |cons J c=>cases c with
   |cons D c=>cases c with
    |cons I c=>
     cases c;rename_i x y z;refine⟨_,zG (qJ (pv 0) (pv 1) rfl) (zG (qJ (pv 0) (pv 2) rfl) (tE (qJ (pv 0) (pv 3) rfl))),_,rfl,_,rfl,p,C,dx,[],rfl,zk,R.cl,R.nf,(by decide:0<1000),_,rfl,_,rfl,p,C,dx,_,rfl,zk,R.cl,R.nl,(show 1<1000 by decide),_,rfl,_,rfl,p,C,dx,xD "last" y (xD "first" x []),rfl,zk,R.cl,R.nw,(show 2<1000 by decide),?_⟩;show Q .non _;rw[qQ,qQ,qQ];have i:zv G.H0 (upd (upd G.H0 dx (.own p)) p (.ins C dx (zE1 x y z))):=λa o e=>by rw[zh (zl e g),zh (zl e L)];exact e
     have k:∀{u:V} {d:PyData},AV (sub (λy=>¬G.O0 y) G.H0) u d->noL d=true->AV (sub (λy=>¬G.O0 y/\∀xs,G.H0 y≠some (.lst xs)) (upd (upd G.H0 dx (.own p)) p (.ins C dx (zE1 x y z)))) u d:=λh n=>h.noL (λa o r e=>by
      obtain⟨e1,m⟩:=zj e;exact zF ⟨e1,λxs j=>by rw[m]at j;cases j;exact r trivial⟩ (i _ _ m)) n
     refine M _ _ q ⟨t.same i,Kz.of_same i,.ins (zF ⟨λe=>?_,λxs e=>by rw[g]at e;cases e⟩ zk) (.cons (k J n1) (.cons (k D n2) (.cons (k I B) .nil)))⟩;obtain⟨u,l,_⟩:=o p e;rw[g]at l;cases l
theorem yG {C f fI fT fE:Addr}{fd:FuncData}{c d:Str}{st:Stmt}{j:Nat}{p1 p2:Pos}(R:tf K C fI fT fE f)(F:Fun K "word" d st f fd)(hb:Binds K fd ["self"] [])(S:zT ["self"] ["self"] (zf st))(e:zw st=[.Return (some (.Constant (.str c) j p1)) p2]):yQ P w K mg base C "word" 1 (qE C c):=by
 refine nu ["self"] R.cl R.word F hb (λ_ _ _ _ _ _ _ Q nd hr h=>?_) S;obtain⟨a,b,v,rfl,q⟩:=h;rw[e];exact yV (vo q)
theorem yK {C f fI fE fW:Addr}{fd:FuncData}{c:Str}(R:tf K C fI f fE fW)(F:Fun K "told" "Rule.told" zh8 f fd)(hb:Binds K fd ["self"] [])(W:yQ P w K mg base C "word" 1 (qE C c)):yQ P w K mg base C "told" 2 (lj C c):=by
 refine nu ["self"] R.cl R.told F hb λ_ _ _ _ _ _ _ Q nd hr h=>?_;obtain⟨a,b,v,rfl,q⟩:=h;and_intros;exact⟨_,_,_,rfl,zm (wD R.cl R.nf (zg 0 rfl ⟨_,_,rfl,rfl,zm (wD R.cl R.nl (zg 0 rfl ⟨_,_,rfl,rfl,zm (wD R.cl R.nw (zg 0 rfl ⟨_,_,rfl,rfl,zx ⟨_,rfl,zP9 rfl,q⟩⟩))⟩))⟩))⟩
theorem yj {C f fI fT fW:Addr}{fd:FuncData}(R:tf K C fI fT f fW)(F:Fun K "tells" "Rule.tells" dO f fd)(hb:Binds K fd ["self","day"] []):yQ P w K mg base C "tells" 1 (sr C):=by
 refine nu ["self","day"] R.cl R.tells F hb λ_ _ _ _ _ _ _ Q nd hr h=>?_;obtain⟨a,b,day,v,rfl,q⟩:=h;and_intros;refine wD R.cl R.nf (zg 0 rfl ⟨_,_,rfl,rfl,?_⟩);and_intros;refine fN (λz=>?_) (λz=>?_)
 ·rw[z,Bool.true_and]at q;exact wD R.cl R.nl (zg 0 rfl ⟨_,_,rfl,rfl,_,rfl,q⟩)
 ·rw[z,zW1]at q;exact q
end
abbrev ze8 :Stmt:=top 40
abbrev yW :Stmt:=inClass (top 39) 0
abbrev vU :Stmt:=inClass (top 39) 1
abbrev kC :Stmt:=inClass (top 39) 2
abbrev eB :Stmt:=top 30
def zC (C:Addr)(cs:Cs)(ds:List PyData):PyData:=wy C [(.str "kept",.list (ds.map (vO cs)))]
def Rules (ds:List PyData):Prop:=∀d∈ds,zN d=true/\SeqAt.shaped d=true/\d.hasDict=false
def eA (cs:Cs):Ph:=λas Q=>∃ds,as=[.dat (.list ds)]/\Rules ds/\ds.length<=24/\Q (.own (ds.map (vO cs)))
def uk (C:Addr)(cs:Cs):Ph:=λas Q=>∃ds,(as=[.dat (.list ds)]\/(as=[.dat .none]/\ds=[]))/\Rules ds/\ds.length<=24/\Q (.dat (zC C cs ds))
def wM (C:Addr)(cs:Cs):Ph:=λas Q=>∃ds,as=[.dat (zC C cs ds)]/\Rules ds/\ds.length<=1000/\Q (.own ds)
theorem vj {cs:Cs}{d:PyData}(h:zN d=true):∃(s:Str) (a b v:PyData),s∈words/\d=.tuple [.str s,a,b,v]/\vO cs d=uU (cs.of s) a b v:=by
 obtain⟨s,a,b,v,c,rfl⟩:=uO h;exact⟨s,a,b,v,c,rfl,rfl⟩
def fZ :Scope:=match zw vU with
 |[.Return (some (.ListComp _ _ sc _)) _]=>sc
 |_=>zf vU
def tbU :List (Str×V):=[("price",.non),("come",.bl true),("go",.bl true),("least",.int 1),("most",.int 14),("deal",.non),("fee",.int 0)]
def oj (x:Str):PyData:=if x="price"\/x="deal" then .none else if x="come"\/x="go" then .bool true else if x="least" then .int 1 else if x="most" then .int 14 else .int 0
theorem zp4 {x:Str}(h:x∈words):∃v,tbU.lookup x=some v/\scV (oj x)=some v:=by
 simp only[words,zJ1,zK5,zN1]at h;rcases h with rfl|rfl|rfl|rfl|rfl|rfl|rfl
 ·exact⟨.non,by decide +kernel,by decide +kernel⟩
 ·exact⟨.bl true,by decide +kernel,by decide +kernel⟩
 ·exact⟨.bl true,by decide +kernel,by decide +kernel⟩
 ·exact⟨.int 1,by decide +kernel,by decide +kernel⟩
 ·exact⟨.int 14,by decide +kernel,by decide +kernel⟩
 ·exact⟨.non,by decide +kernel,by decide +kernel⟩
 ·exact⟨.int 0,by decide +kernel,by decide +kernel⟩
theorem fP (x:Str):zQ 5000 (oj x):=by
 have b:(0:Int)<big:=by decide +kernel
 have c:(14:Int)<big:=by decide +kernel
 have i1:∀i:Int,0<=i->i<=14->zQ 5000 (.int i):=λi h0 a=>(zQ.int (by lia) (by lia)).mono (by decide);unfold oj;split
 ·exact zQ.none.mono (by decide)
 ·split
  ·exact(zQ.bool _).mono (by decide)
  ·split
   ·exact i1 _ (by decide) (by decide)
   ·split
    ·exact i1 _ (by decide) (by decide)
    ·exact i1 _ (by decide) (by decide)
def yu (w:Str)(day:Int):PyData->Bool
 |.tuple [.str x,.int a,.int b,_]=>decide (x=w)&&(decide (a<=day)&&decide (day<=b))
 |_=>false
def vH :PyData->PyData
 |.tuple [_,_,_,v]=>v
 |_=>.none
def zb (ds:List PyData)(w:Str)(day:Int):PyData:=match ds.reverse.find? (yu w day)with
 |some d=>vH d
 |none=>oj w
theorem sI {p:PyData->Bool}{e:PyData}:∀{l:List PyData}{i:Nat},(∀j<i,∀d,l[j]?=some d->p d=false)->l[i]?=some e->p e=true->l.find? p=some e
 |[],i,_,h,_=>by simp at h
 |d::l,0,_,h,q=>by
  simp at h;subst h;simp[zO8,q]
 |d::l,i+1,a,h,q=>by
  have hd:=a 0 (z00 _) d rfl;rw[zO8,hd];exact sI (i:=i) (λj c x b=>a (j+1) (Nat.succ_lt_succ c) x (by simpa using b)) (by simpa using h) q
theorem aa {p:PyData->Bool}{l:List PyData}(h:∀(j:Nat) d,l[j]?=some d->p d=false):l.find? p=none:=by
 rw[z02];intro x a;obtain⟨j,b⟩:=List.mem_iff_getElem?.mp a;rw[h j x b];simp
def kg :List A->(A->Prop)->Prop:=λas Q=>∃x,as=[.dat (.str x)]/\x∈words/\Q (.dat (oj x))
def vC (C:Addr)(cs:Cs):List A->(A->Prop)->Prop:=λas Q=>∃ds x day,as=[.dat (zC C cs ds),.dat (.str x),.dat (.int day)]/\Rules ds/\x∈words/\Q (.dat (zb ds x day))
section
variable {P:Program}{w:World}{K:PySem.W.Frag}{mg:Str->Option Value}{base:Heap}{cs:Cs}
theorem fo (F:FnD K mg "kept_rules" ze8 ["things"])(nb:NbT mg)(j:∃t,mg "MOST_RULES"=some (.int 24 t))(g:Cal P w K mg base "rule_of" 7 (pT cs)):Cal P w K mg base "kept_rules" 8 (eA cs):=by
 refine zX ["things","kept","number","thing","rule"] F λ_ _ _ _ _ _ _ _ Q nd hr h=>?_;obtain⟨ds,rfl,k,l,q⟩:=h;and_intros;refine yh (.many [2,3]) (tL (by rfl) nb.enumerate (zg 0 rfl (⟨_,rfl,?_⟩)));refine zH (λi α=>∃v2 c v4,α=[some (.dat (.list ds)),some (.own ((ds.take i).map (vO cs))),v2,c,v4]) ⟨none,none,none,rfl⟩ ?_ ?_
 ·rintro i d α hd ⟨v2,c,v4,rfl⟩;obtain⟨e,he,rfl⟩:=xj hd;have f:=(k e (zL8 he)).1;have hi:=(zI8.mp he).1;obtain⟨s',a,b,v,n,rfl,m⟩:=vj (cs:=cs) f;have e:(ds.take (i+1)).map (vO cs)=(ds.take i).map (vO cs)++[vO cs (.tuple [.str s',a,b,v])]:=by
   rw[zQ8,he,zV4];rfl
  rw[e];refine⟨_,rfl,?_⟩;and_intros;refine⟨f,?_⟩;and_intros;refine⟨by rw[zI5,zO9];lia,?_⟩;and_intros;exact⟨_,_,_,rfl⟩
 ·rintro α ⟨v2,c,v4,rfl⟩;rw[yJ,zO4];refine va (tM 1 rfl (zc3 (qL (by rfl) nb.len (zg 1 rfl ⟨_,rfl,yC (by rfl) j ⟨_,_,rfl,rfl,?_⟩⟩))));refine xu (zL2 ?_) ?_
  ·rw[zI5]
   lia
  ·and_intros;exact q
theorem pq {ds:List PyData}(g:Rules ds):uq (ds.map (vO cs))=true:=by
 induction ds with
 |nil=>rfl
 |cons d r k=>
  have c:=k λx h=>g x (zJ2 _ h);have f:=(g d zJ6).1;obtain⟨s',a,b,v,l,rfl,i⟩:=vj (cs:=cs) f;obtain⟨_,_,_,_,e,j,_,_,_,hw⟩:=zL f;cases j;have z3:=(vh e hw).2;rw[zM9,i];simp only[uq,c,Bool.and_true];simp[uU,wy,noL,tU,z3]
theorem zF9 :zT ["self","rules"] ["self","rules"] (zf yW):=.o
theorem dZ {f C:Addr}{dV:Value}{fd:FuncData}(F:zn4 K "__init__" "Book.__init__" yW dV f fd)(c:Cls K C)(na:yq K C "kept")(e:Cal P w K mg base "kept_rules" 8 (eA cs)):yE P w K mg base CX0 9 f fd ["self","rules"] (spI C (uk C cs)):=by
 refine zD2 (N:=[]) F zF9 c na rfl (λas Q h=>?_) (λcdv g outer s H E as Q hr h=>?_) (λ_ _ _ _ _ _=>rfl) (Or.inl rfl)
 ·obtain⟨ds,h|⟨h,_⟩,_⟩:=h<;>rw[h]<;>rfl
 ·obtain⟨ds,h|⟨h,hz⟩,a,b,q⟩:=h
  ·subst h;exact xA e hr (by rfl) (zm (ml (ve (zg 1 rfl (rA (zg 1 rfl (zx ⟨_,rfl,a,b,_,rfl,pq a,q⟩)))))))
  ·subst h hz;exact xA e hr (by rfl) (zm (ml (ve (zg 1 rfl (rq (EvL.d (yL (zx ⟨_,rfl,zP9 rfl,zx ⟨[],rfl,a,b,_,rfl,pq a,q⟩⟩))))))))
theorem zC2 :zz ["self"] (zf vU) ["rule"] [none] fZ:=⟨rfl,by decide +kernel,by decide +kernel,by decide +kernel,by decide +kernel,rfl,by decide +kernel⟩
theorem mR {f C:Addr}{fd:FuncData}(c:Cls K C)(na:yq K C "kept")(k:Meth K C "rules" f)(F:Fun K "rules" "Book.rules" vU f fd)(hb:Binds K fd ["self"] [])(O:∀g∈words,yQ P w K mg base (cs.of g) "told" 2 (lj (cs.of g) g)):yQ P w K mg base C "rules" 3 (wM C cs):=by
 refine nu ["self"] c k F hb λ_ _ _ _ _ _ _ Q nd hr h=>?_;obtain⟨ds,rfl,n,j,q⟩:=h;refine xS (ji (pat:=.one 0) rfl zC2 rfl (λ_ _ _ _=>zM (i:=0) zC2.nd rfl (Or.inl rfl)) (zZ (wD c na (zg 0 rfl ⟨_,_,rfl,rfl,⟨_,rfl,by rw[zI5];exact j,?comp⟩⟩))))
 case comp=>
  refine wQ (λi acc=>acc=ds.take i) rfl ?_ (λacc h=>?_)
  ·rintro i d acc hd rfl;rw[zK0,zL5]at hd;obtain⟨e,he,rfl⟩:=hd;obtain⟨s',a,b,v,m,rfl,o⟩:=vj (cs:=cs) (n e (zL8 he)).1;refine⟨_,rfl,λC s2 l fp=>uC ?_⟩;rw[if_pos rfl];refine λC s2 l fp=>sL (O s' m) hr (zg 0 rfl ⟨_,rfl,rfl,_,_,_,rfl,?_⟩);show ds.take i++[_]=ds.take (i+1);rw[zQ8,he];rfl
  ·rw[zI5,zO4]at h;rw[h];exact q
theorem iH {a:Addr}(F:FnD K mg "usual" eB ["word"])(d:mg "USUAL"=some (.ref a))(c:kl K w a tbU):Cal P w K mg base "usual" 1 kg:=by
 refine zX ["word"] F λ_ _ _ _ _ _ _ _ Q nd hr h=>?_;obtain⟨x,rfl,b,q⟩:=h;obtain⟨v,f,e⟩:=zp4 b;exact yV (gS (by rfl) d c (zg 0 rfl ⟨x,oj x,v,rfl,f,e,q⟩))
theorem mF {f C:Addr}{fd:FuncData}(c:Cls K C)(na:yq K C "kept")(y:Meth K C "tells_of" f)(F:Fun K "tells_of" "Book.tells_of" kC f fd)(hb:Binds K fd ["self","word","day"] [])(nb:NbT mg)(A:Cal P w K mg base "usual" 1 kg)(B:∀u∈words,yQ P w K mg base (cs.of u) "word" 1 (qE (cs.of u) u))(r:∀u∈words,yQ P w K mg base (cs.of u) "tells" 1 (sr (cs.of u)))
  (o:∀u∈words,Cls K (cs.of u)/\yq K (cs.of u) "worth"):yQ P w K mg base C "tells_of" 2 (vC C cs):=by
 refine nu ["self","word","day","rule"] c y F hb λ_ _ _ _ _ _ _ Q nd hr h=>?_;obtain⟨ds,x,day,rfl,D,s,q⟩:=h;refine yh (.one 3) (zr0 (by rfl) nb.reversed (wD c na (zg 0 rfl ⟨_,_,rfl,rfl,⟨_,rfl,?_⟩⟩)));refine zH (λi α=>(∃n,α=[some (.dat (zC C cs ds)),some (.dat (.str x)),some (.dat (.int day)),n])/\∀j<i,∀d,ds.reverse[j]?=some d->yu x day d=false) ⟨⟨none,rfl⟩,λj p=>absurd p (zZ6 _)⟩ ?_ ?_
 ·rintro i d α hd ⟨⟨n,rfl⟩,hno⟩;rw[<-List.map_reverse,zK0,zL5]at hd;obtain⟨e,he,rfl⟩:=hd;have m:e∈ds:=zT2.mp (zL8 he);obtain⟨u,a,b,v,l,rfl,_,_,_,_⟩:=zL (D e m).1;refine⟨_,rfl,?_⟩;refine va (EvW.t (bh (λ_ k=>zu5 (sL (B u l) hr (zg 3 rfl ⟨_,rfl,rfl,_,_,_,rfl,zg 1 rfl ⟨_,_,rfl,rfl,k⟩⟩)))
   (λE _ k=>je (gI (wH (r u l) hr (zg 3 rfl ⟨_,rfl,rfl,zm (zg 2 rfl (zx ⟨_,_,_,_,rfl,_,rfl,k⟩))⟩)))) ?_))
  refine xi (λh=>?_) (λh=>?_)
  ·refine yV (wD (o u l).1 (o u l).2 (zg 3 rfl ⟨_,_,rfl,rfl,?_⟩));have e1:ds.reverse.find? (yu x day)=some (.tuple [.str u,.int a,.int b,v]):=sI hno he h;unfold zb at q;rw[e1]at q;exact q
  ·refine zt (zt ⟨⟨_,rfl⟩,λj p d' g=>?_⟩);rcases zN2 j i with z|z
   ·exact hno j z d' g
   ·have:j=i:=by lia
    subst this;rw[he]at g;cases g;exact h
 ·rintro α ⟨⟨n,rfl⟩,hno⟩;refine yV (mQ A (hr.mono (by decide)) (by rfl) (zm (zg 1 rfl (zx ⟨x,rfl,s,?_⟩))));have e1:ds.reverse.find? (yu x day)=none:=aa λj d hd=>hno j (by
   have:=(zI8.mp hd).1;rw[zZ1,zI5]
   rwa [zZ1]at this) d hd
  unfold zb at q;rw[e1]at q;exact q
end
structure ur (d:PyData):Prop where
 rule:zN d=true
 nice:zQ 20011 d
 dep:d.depth<=2
 wn:zQ 5000 (vH d)
def zq (ds:List PyData):Prop:=∀d∈ds,ur d
theorem qm {s:Str}(h:s∈words):zQ 2000 (.str s):=by
 simp only[words,zJ1,zK5,zN1]at h;rcases h with rfl|rfl|rfl|rfl|rfl|rfl|rfl<;>exact⟨rfl,rfl,zJ8 _,by decide +kernel,by decide +kernel⟩
theorem ur.of {s:Str}{i j:Int}{d:PyData}(e:s∈words)(k:0<=i)(h:i<=j)(g:j<=1000000)(hw:zK (.str s) d=true)(hn:zQ 5000 d)(hd:d.depth<=1):ur (.tuple [.str s,.int i,.int j,d]):=by
 have c:(1000001:Int)<big:=by decide
 have b:-big<(0:Int):=by decide
 have na:yb 5000 [.str s,.int i,.int j,d]:=by
  constructor
  ·intro x a;simp only[zJ1,zK5,zN1]at a;rcases a with rfl|rfl|rfl|rfl
   ·exact(qm e).mono (by decide)
   ·exact(zQ.int (by lia) (by lia)).mono (by decide)
   ·exact(zQ.int (by lia) (by lia)).mono (by decide)
   ·exact hn
  ·intro x a;simp only[zJ1,zK5,zN1]at a;rcases a with rfl|rfl|rfl|rfl
   ·exact zJ8 _
   ·exact zJ8 _
   ·exact zJ8 _
   ·lia
 refine⟨?_,zQ.tuple na (by show 4*(5000+2)+3<=20011;decide),?_,hn⟩
 ·show(wj (.tuple [.int i,.int j])&&zK (.str s) d)=true;rw[hw,Bool.and_true];unfold wj zr4;have f:(iL (.int i)&&iL (.int j))=true:=by
   show((decide (0<=i)&&decide (i<=1000000))&&(decide (0<=j)&&decide (j<=1000000)))=true;simp only[zN3,zS3]
   lia
  simp only[f,zY9,zS3]
  lia
 ·simp only[PyData.depth,PyData.depthAll]
  lia
theorem zq.rules {ds:List PyData}(h:zq ds):Rules ds:=λd hd=>⟨(h d hd).rule,(h d hd).nice.shaped,(h d hd).nice.nod⟩
abbrev lF :Stmt:=top 67
abbrev ja :Stmt:=top 68
abbrev cG :Stmt:=top 69
abbrev zd4 :Stmt:=top 70
abbrev fC :Stmt:=top 71
theorem within_int {lo hi i:Int}(a:lo<=i)(b:i<=hi):yy lo hi (.int i)=true:=by
 show(decide (lo<=i)&&decide (i<=hi))=true;rw[zM1 a,zM1 b];rfl
theorem pK {i:Int}(h0:-2000000000000<=i)(a:i<=2000000000000):zQ 2000 (.int i):=zQ.int (by unfold big;lia) (by unfold big;lia)
def kH :Ph:=λas Q=>as=[.tape]/\∀z:Int,0<=z->z<=1000000000000->Q (.dat (.int z))
def ng :Ph:=λas Q=>∃a,as=[.tape,.dat (.str a)]/\a∈words/\∀d,zK (.str a) d=true->zQ 5000 d->d.depth<=1->Q (.dat d)
def kx :Ph:=λas Q=>∃y:Int,as=[.tape,.dat (.int y)]/\0<=y/\y<=1000000/\∀d,ur d->Q (.dat d)
def gn :Ph:=λas Q=>as=[.tape]/\∀z:Int,0<=z->z<=999990->Q (.dat (.int z))
section
variable {P:Program}{w:World}{K:PySem.W.Frag}{mg:Str->Option Value}{base:Heap}
theorem iN (F:FnD K mg "_law_coins" lF ["_law_row"])(a:Cal P w K mg base "_law_take" 1 xP):Cal P w K mg base "_law_coins" 2 kH:=by
 refine zX ["_law_row","_law_few","_law_many","_law_great"] F λ_ _ _ _ _ _ _ _ Q nd hr h=>?_;obtain⟨rfl,q⟩:=h;and_intros;refine⟨.inl ⟨by decide,by decide⟩,?_⟩;and_intros;refine⟨.inr ⟨by decide,by decide⟩,?_⟩;and_intros;refine⟨.inl ⟨by decide,by decide⟩,?_⟩;and_intros;refine⟨⟨by decide,by decide +kernel⟩,pe rfl (by lia) (by show _<(5:Int);lia) ?_⟩
 repeat refine⟨q _ (by lia) (by lia),?_⟩
 trivial
theorem iS (F:FnD K mg "_law_worth" ja ["_law_row","_law_word"])(j:Cal P w K mg base "_law_take" 1 xP)(k:Cal P w K mg base "_law_coins" 2 kH):Cal P w K mg base "_law_worth" 3 ng:=by
 refine zX ["_law_row","_law_word","_law_many","_law_free","_law_coins_here"] F λ_ _ _ _ _ _ _ _ Q nd hr h=>?_;obtain⟨c,rfl,hw,q⟩:=h;have e:∀z:Int,0<=z->z<=1000000000000->zK (.str c) (.int z)=true->Q (.dat (.int z)):=λz a b h=>q _ h ((pK (by lia) (by lia)).mono (by decide)) (zJ8 _);have g:zK (.str c) .none=true->Q (.dat .none):=λh=>q _ h (zQ.none.mono (by decide)) (zJ8 _);have f:∀b,zK (.str c) (.bool b)=true->Q (.dat (.bool b)):=λb h=>q _ h ((zQ.bool _).mono (by decide)) (zJ8 _);simp only[words,zJ1,zK5,zN1]at hw;rcases hw with rfl|rfl|rfl|rfl|rfl|rfl|rfl<;>and_intros
 ·refine⟨rfl,λz a b=>?_⟩;and_intros;refine xi (λ_=>?_) λ_=>?_<;>and_intros
  ·exact g rfl
  ·exact e z a b (within_int a b)
 ·exact f _ rfl
 ·exact f _ rfl
 iterate 2
  ·refine qp (λd=>∃z:Int,d=.int z/\0<z/\z<=14) rfl (by assumption) (by assumption) ⟨⟨_,rfl,by decide,by decide⟩,⟨_,rfl,by decide,by decide⟩,trivial⟩ ?_;rintro _ ⟨z,rfl,_,_⟩;and_intros;exact e _ (by lia) (by lia) (within_int (by lia) (by lia))
 ·refine qp (λd=>∃z:Int,d=.int z/\0<z/\z<=13) rfl (by assumption) (by assumption) ⟨⟨_,rfl,by decide,by decide⟩,⟨_,rfl,by decide,by decide⟩,trivial⟩ ?_;rintro _ ⟨z,rfl,_,_⟩;and_intros;have n:∀{i:Int},0<=i->i<=14->zQ 2000 (.int i):=λ_ _=>pK (by lia) (by lia);refine pe rfl (by assumption) (by assumption) ?_
  iterate 2 refine⟨q _ (zT9.mpr ⟨within_int (by lia) (by lia),within_int (by lia) (by lia)⟩) (zQ.tuple (n:=2000) (yb.two (n (by lia) (by lia)) (n (by lia) (by lia)) (zJ8 _) (zJ8 _)) (by show 2*(2000+2)+3<=5000;decide)) (zJ0 _),?_⟩
  exact⟨g rfl,trivial⟩
 ·refine⟨rfl,λz a b=>?_⟩;and_intros;exact e z a b (within_int a b)
theorem gc (F:FnD K mg "_law_rule" cG ["_law_row","_law_day_here"])(nb:NbT mg)(k:Cal P w K mg base "_law_take" 1 xP)(j:Cal P w K mg base "_law_worth" 3 ng):Cal P w K mg base "_law_rule" 4 kx:=by
 refine zX ["_law_row","_law_day_here","_law_word","_law_ahead","_law_first","_law_last"] F λ_ _ _ _ _ _ _ _ Q nd hr h=>?_;obtain⟨y,rfl,g,e,q⟩:=h;and_intros;refine qp (λd=>∃x,d=.str x/\x∈words) rfl (by assumption) (by assumption) ?_ ?_
 ·repeat refine⟨⟨_,rfl,by simp[words]⟩,?_⟩
  trivial
 rintro _ ⟨f,rfl,hw⟩;and_intros;refine qp (λd=>∃z:Int,d=.int z) rfl (by assumption) (by assumption) ⟨⟨_,rfl⟩,⟨_,rfl⟩,⟨_,rfl⟩,⟨_,rfl⟩,trivial⟩ ?_;rintro _ ⟨m,rfl⟩;and_intros;refine qp (λd=>∃z:Int,d=.int z/\0<=z) rfl (by assumption) (by assumption) ⟨⟨_,rfl,by lia⟩,⟨_,rfl,by lia⟩,⟨_,rfl,by lia⟩,⟨_,rfl,by lia⟩,⟨_,rfl,by lia⟩,trivial⟩ ?_;rintro _ ⟨l,rfl,_⟩;and_intros;refine⟨hw,λi a b c=>?_⟩;and_intros;refine q _ (ur.of hw ?_ ?_ ?_ a b c)<;>repeat split
 all_goals lia
theorem zb8 (F:FnD K mg "_law_day" zd4 ["_law_row"])(a:Cal P w K mg base "_law_take" 1 xP):Cal P w K mg base "_law_day" 2 gn:=by
 refine zX ["_law_row"] F λ_ _ _ _ _ _ _ _ Q nd hr h=>?_;obtain⟨rfl,q⟩:=h;and_intros;refine pe rfl (by assumption) (by assumption) ?_
 repeat refine⟨q _ (by lia) (by lia),?_⟩
 trivial
end
theorem zq.snoc {ds:List PyData}{d:PyData}(h:zq ds)(hd:ur d):zq (ds++[d]):=λx a=>by
 rcases zK6.mp a with a|a
 ·exact h x a
 ·rw[zK3.mp a];exact hd
theorem zq.app {ds es:List PyData}(h:zq ds)(h':zq es):zq (ds++es):=λx a=>by
 rcases zK6.mp a with a|a
 ·exact h x a
 ·exact h' x a
abbrev kO :Stmt:=top 9
def tX :Ph:=λas Q=>∃c g:Int,as=[.dat (.tuple [.int c,.int g])]/\-100<=c/\c<g/\g<=c+500/\c<=1000100/\Q (.own ((zr c (g-c).toNat).map .int))
section
variable {P:Program}{w:World}{K:PySem.W.Frag}{mg:Str->Option Value}{base:Heap}{cs:Cs}
theorem mC (F:FnD K mg "nights_of" kO ["stay"])(nb:NbT mg):Cal P w K mg base "nights_of" 1 tX:=by
 refine zX ["stay"] F λ_ _ _ _ _ _ _ _ Q nd hr h=>?_;obtain⟨c,g,rfl,e,d,a,b,q⟩:=h;exact xS (ph rfl (by rfl) nb.list (by rfl) nb.range (xB (λ_ _=>rfl) (zg 0 rfl (yg (⟨_,_,_,rfl,rfl,rfl,xB (λ_ _=>rfl) (zg 0 rfl (yg (⟨_,_,_,rfl,rfl,rfl,⟨_,_,rfl,rfl,⟨by lia,by lia,by lia,by lia⟩,by lia,q⟩⟩)))⟩)))))
end
abbrev yt :Stmt:=top 49
def qf :Arguments×Scope:=match zw yt with
 |[.Return (some (.Call _ _ [⟨_,.Lambda ps _ sc _,_⟩] _)) _]=>(ps,sc)
 |_=>(zJ yt,zf yt)
section
variable {P:Program}{w:World}{K:PySem.W.Frag}{mg:Str->Option Value}{base:Heap}
theorem za5 :zT ["prices","places"] ["prices","places"] (zf yt):=.o
theorem zv1 :xN "place" "prices" qf.1 qf.2:=⟨rfl,rfl,rfl,rfl,rfl,by decide +kernel,by decide +kernel,by decide⟩
theorem zm1 {f c:Addr}{b:Around}{outer:List Env}{s:Shared}{H:Hp}{E:XK}{n1:Nat}{p1 p2 p3 p4 p5 p6:Pos}(hhd:PySem.W.codeHdIn K c yf=true)(a:K.In base)(hbi:base.BuiltinsAt mg yf):
  gG (wq CX0 P w K mg base ["prices","places"] "cheapest_first" (zf yt) f (.ref c) b outer s H E).nox c "place" "prices" n1 p1 p2 p3 p4 p5 p6 qf.1 qf.2 where
 S:=zv1
 hy:=rfl
 hcl:=λcl h=>by
  have e:qf.2.names=[(("prices":Str),NameKind.free),(("place":Str),NameKind.local)]\/qf.2.names=[(("place":Str),NameKind.local),(("prices":Str),NameKind.free)]:=by decide +kernel
  unfold closureFor;rcases e with e|e<;>rw[e]<;>simp[cellOf,h]
 hgl:=rfl
 hco:=rfl
 hhd:=PySem.W.codeHd_of_K a hhd
 hbi:=hbi
 hdf:=rfl
 hq:=rfl
 hne:=by decide
 hb:=λu cl c' pm ctv=>rfl
 hdx:=by decide
 hdy:=by decide
 hcx:=by decide
 hcy:=by decide
def qR :Ph:=λas Q=>∃ns zs:List Int,as=[.dat (.list (zs.map .int)),.dat (.list (ns.map .int))]/\ns.length<64/\(∀n∈ns,0<=n/\n<zs.length)/\∀ms,tj ns zs ms->Q (.own (ms.map .int))
theorem js {f c:Addr}{oc:Value}{od an:Option Addr}{osl:Array (Option Value)}{kV doc pm ct:Value}(e:K.lookup f=some ⟨oc,od,.func (PySem.W.fnOf "cheapest_first" "cheapest_first" (zJ yt) (zw yt) (zf yt) .none kV doc pm an (.ref c) ct),osl⟩)(d:PySem.W.codeIn K (.ref c) "cheapest_first"=true)(kp:PySem.W.keepIn K (.ref f)=true)
  (hm:mg "cheapest_first"=some (.ref f)) (hb:Binds K (PySem.W.fnOf "cheapest_first" "cheapest_first" (zJ yt) (zw yt) (zf yt) .none kV doc pm an (.ref c) ct) ["prices","places"] []) (nb:NbT mg) (hhd:PySem.W.codeHdIn K c yf=true) (g:K.In base) (hbi:base.BuiltinsAt mg yf):Cal P w K mg base "cheapest_first" 3 qR:=by
 refine⟨f,_,_,hm,kp,hb,zE9 e d za5 (λas Q h=>by obtain⟨ns,zs,rfl,_⟩:=h;rfl) λl outer s H E as Q hr h=>?_⟩;obtain⟨ns,zs,rfl,a,b,q⟩:=h;exact xS (mh (j:=0) (k:=0) (zm1 hhd g hbi) hr (by rfl) nb.sorted rfl (zg 1 rfl ⟨ns,zs,rfl,rfl,a,b,λms i=>q ms i⟩))
end
abbrev vF :Stmt:=top 50
def zC6 :Scope:=match zw vF with
 |.Assign _ (.ListComp _ _ sc _) _::_=>sc
 |_=>zf vF
def sN :Ph:=λas Q=>∃(zs:List Int) (d:PyData),as=[.dat (.list (zs.map .int)),.dat d]/\zs.length<=500/\
 ((d=.none/\Q (.own ((List.replicate zs.length false).map .bool)))\/∃many free:Nat,d=.tuple [.int many,.int free]/\0<many/\many<64/\∀bs,tm zs many free zs.length bs->Q (.own (bs.map .bool)))
theorem jn (ns:List Int):uq (ns.map .int)=true:=by
 induction ns with
 |nil=>rfl
 |cons n ns a=>rw[zM9,uq,a];rfl
section
variable {P:Program}{w:World}{K:PySem.W.Frag}{mg:Str->Option Value}{base:Heap}
theorem zv0 :zz ["prices","deal","marks","bundle","place","rank","other"] (zf vF) ["price"] [none] zC6:=⟨rfl,by decide +kernel,by decide +kernel,by decide +kernel,by decide +kernel,rfl,by decide +kernel⟩
theorem mw (F:FnD K mg "marked" vF ["prices","deal"])(nb:NbT mg)(N:Cal P w K mg base "cheapest_first" 3 qR):Cal P w K mg base "marked" 4 sN:=by
 refine zX ["prices","deal","marks","bundle","place","rank","other"] F λ_ _ R _ _ _ _ _ Q nd hr h=>?_;obtain⟨zs,d,rfl,hlen,h⟩:=h;refine eN 2 (pat:=.one 0) nd rfl zv0 rfl (λ_ _ _ _=>zM (i:=0) zv0.nd rfl (Or.inl rfl)) (zZ (zg 0 rfl ⟨_,rfl,?_,?comp⟩))
 ·rw[zI5];lia
 refine xQ (λ_=>true) (λ_=>.bool false) (λd hd=>⟨_,rfl,λ_ _ _ _ _ k=>uC k,λ_ _ _ _ _ _ k=>cu k⟩) ?_;have I:([]:List PyData)++List.map (λ_=>PyData.bool false) (List.filter (λ_=>true) (List.map PyData.int zs))=(List.replicate zs.length false).map .bool:=by
  rw[zV1,gg,List.map_map,List.map_replicate];exact List.eq_replicate_iff.mpr ⟨by simp,by simp⟩
 rw[I];rcases h with⟨rfl,q⟩|⟨many,free,rfl,g,p,q⟩
 ·refine va (ve (zg 1 rfl ?_));exact xy 2 rfl q
 refine va (ve (zg 1 rfl (zt ?_)));refine yz 3 nd (yL (zx ⟨_,rfl,zJ8 _,?_⟩));refine qX (pat:=.one 4) zZ7 rfl (zM (i:=4) nd rfl (Or.inl rfl)) (wU (by rfl) nb.range (qL (by rfl) nb.len (zg 0 rfl ⟨_,rfl,⟨_,rfl,by lia,by rw[zI5];lia,?_⟩⟩)));refine zH (λi α=>∃(bs:List Bool) (x s m:Option A),tm zs many free i bs/\α=[some (.dat (.list (zs.map .int))),some (.dat (.tuple [.int many,.int free])),some (.own (bs.map .bool)),some (.own ((zr ((i / many*many:Nat):Int) (i % many)).map .int)),x,s,m]) ?_ ?_ ?_
 ·refine⟨_,none,none,none,iF zs free,?_⟩;rw[Nat.zero_mod,Nat.zero_div];rfl
 ·rintro i d α hd ⟨bs,x,s,m,mk,rfl⟩;have hi:i<zs.length:=by
   have:=(zI8.mp hd).1;simpa[zc]using this
  obtain rfl:d=.int (i:Int):=by
   rw[zK0,yF (by simpa using hi)]at hd;simpa using hd.symm
  refine⟨_,rfl,?_⟩;have H:=Nat.mod_lt i g;refine wK 3 rfl (zg 4 rfl ⟨by rw[zI5,zc];lia,?_⟩);have J:List.map PyData.int (zr ((i / many*many:Nat):Int) (i % many))++[PyData.int (i:Int)]=(zr ((i / many*many:Nat):Int) (i % many+1)).map .int:=by
   have e:=zX3 i many;have L:i / many*many=many*(i / many):=z30 _ _;rw[ny,zV4]
   congr 1
   simp only[zM9,List.map_nil]
   congr 2
   lia
  rw[J];refine va (tM 3 rfl (zm2 (qL (by rfl) nb.len (zg 3 rfl ⟨_,rfl,xB (λ_ _=>rfl) (zg 1 rfl (yg ⟨_,_,_,rfl,rfl,at0,_,_,rfl,rfl,?_⟩))⟩))));refine gJ (λy=>?_) (λy=>zt ?_)
  ·have c:i % many+1=many:=by
    rw[zI5,zc]at y
    lia
   rw[c];have o:∀n∈zr ((i / many*many:Nat):Int) many,0<=n/\n<zs.length:=λn hn=>by
    rw[zY]at hn;have e:=zX3 i many;have L:i / many*many=many*(i / many):=z30 _ _
    lia
   refine qX (pat:=.many [5,6]) zZ7 rfl (vG (n:=2) (K:=K) rfl rfl (wm (zM (i:=5) nd rfl (Or.inl rfl)) (wm (zM (i:=6) nd rfl (Or.inl rfl)) (tN))))
    (tL (by rfl) nb.enumerate (EvL.d (ag 3 rfl (xA N hr (by rfl) (zm (zg 0 rfl (zm (zg 3 rfl (zx ⟨_,zs,rfl,by rw[zc];exact p,o,λms u=>⟨_,rfl,jn ms,_,rfl,?_⟩⟩)))))))))
   have C:ms.length=many:=by rw[u.1.length_eq,zc]
   refine zH (λr α=>∃(a:List Bool) (p5 p6:Option A),(a.length=bs.length/\(∀q,q<r->a.getD (ms.getD q 0).toNat false=decide (q<free))/\∀j,(∀q,q<r->(ms.getD q 0).toNat≠j)->a.getD j false=bs.getD j false)/\
    α=[some (.dat (.list (zs.map .int))),some (.dat (.tuple [.int many,.int free])),some (.own (a.map .bool)),some (.own ((zr ((i / many*many:Nat):Int) many).map .int)),some (.dat (.int i)),p5,p6]) ?_ ?_ ?_
   ·exact⟨bs,s,m,⟨rfl,λq h=>absurd h (zZ6 _),λ_ _=>rfl⟩,rfl⟩
   ·rintro r d α hd ⟨a,p5,p6,⟨f0,f1,f2⟩,rfl⟩;obtain⟨e,he,rfl⟩:=xj hd;have f:r<ms.length:=by
     have:=(zI8.mp he).1;simpa using this
    obtain rfl:e=.int (ms.getD r 0):=by
     rw[zK0,zI7 f]at he;rw[zJ7,zI7 f];simpa using he.symm
    refine⟨_,rfl,?_⟩;have t:=vR u (q:=r) (by lia);have D:=o (ms.getD r 0) (zY.mpr t);obtain⟨j,v⟩:=z05 D.1;rw[v];have O:j<a.length:=by rw[f0,mk.1];lia
    refine zt2 2 rfl (zg3 (zg 5 rfl (xB (λ_ _=>rfl) (zg 1 rfl (yg ⟨_,_,_,rfl,rfl,wR (j:=1) rfl,_,_,rfl,rfl,zg 6 rfl ⟨_,j,rfl,?_,zt ?_⟩⟩)))))
    ·unfold ixN;rw[if_pos (by lia),if_pos (by rw[zI5];lia)];simp
    ·refine⟨a.set j (decide (r<free)),some (.dat (.int ((0+r:Nat):Int))),some (.dat (.int (j:Int))),⟨?_,λq hq=>?_,λl G=>?_⟩,?_⟩
     ·rw[zP5,f0]
     ·by_cases B:q=r
      ·subst B;rw[v,zQ7,zJ7,zS7 O];rfl
      ·have hne:(ms.getD q 0).toNat≠j:=λz=>by
        have nd:ms.Nodup:=u.1.nodup_iff.mpr (rP _ _);have a1:=(vR u (q:=q) (by lia)).1;have E:ms.getD q 0=ms.getD r 0:=by rw[v];lia
        rw[zJ7,zJ7,zI7 (by lia),zI7 f]at E;exact(zR0.mp nd q r (by lia) f (by lia)) E
       rw[zJ7,zO5 hne.symm,<-zJ7,f1 q (by lia)]
     ·have hne:j≠l:=λz=>G r (zO3 _) (by rw[v];lia);rw[zJ7,zO5 hne,<-zJ7,f2 l λq hq=>G q (by lia)]
     ·have M:decide (((0+r:Nat):Int)<(free:Int))=decide (r<free):=by rw[decide_eq_decide];lia
      rw[M,List.map_set];rfl
   ·rintro α ⟨a,p5,p6,⟨f0,f1,f2⟩,rfl⟩;refine yz 3 nd (yL (zx ⟨_,rfl,zJ8 _,zt ?_⟩));rw[yJ,zI5,C]at f1 f2;refine zt ?_;refine⟨a,some (.dat (.int i)),p5,p6,jP g c mk u f0 f1 f2,?_⟩;rw[(oI g c).2.1];rfl
  ·have b:i % many+1<many:=by
    rw[zI5,zc]at y
    lia
   refine zt ?_;refine⟨bs,some (.dat (.int i)),s,m,iY g b mk,?_⟩;rw[(tZ g b).1,(tZ g b).2];rfl
 ·rintro α ⟨bs,x,s,m,mk,rfl⟩;have el:(List.map PyData.int (zr 0 ((List.map PyData.int zs).length:Int).toNat)).length=zs.length:=by simp[zc]
  rw[el]at mk;exact xy 2 rfl (q bs mk)
end
abbrev sNP :Stmt:=top 51
abbrev si :Stmt:=top 52
def zb3 :Scope:=match (zw si).getD 5 (.Pass ⟨0,0,0,0⟩)with
 |.Assign _ (.Call _ [.ListComp _ _ sc _] _ _) _=>sc
 |_=>zf si
def zB8 (C:Addr)(cs:Cs):Ph:=λas Q=>∃(ds:List PyData) (ns:List Int) (pr:Int->Int),as=[.dat (zC C cs ds),.dat (.list (ns.map .int))]/\Rules ds/\ns.length<=900/\(∀z∈ns,zb ds "price" z=.int (pr z))/\Q (.own ((ns.map pr).map .int))
def eY (C:Addr)(cs:Cs):Ph:=λas Q=>∃(ds:List PyData) (c g fee:Int) (pr:Int->Int),as=[.dat (zC C cs ds),.dat (.tuple [.int c,.int g])]/\Rules ds/\0<=c/\c<g/\g<=c+400/\c<=1000000/\(∀z,c<=z->z<g->zb ds "price" z=.int (pr z)/\0<=pr z/\pr z<=1000000000000)/\
 (zb ds "deal" c=.none\/∃many free:Nat,zb ds "deal" c=.tuple [.int many,.int free]/\0<many/\many<64)/\zb ds "fee" c=.int fee/\
 ∀bs,xY (zb ds "deal" c) ((zr c (g-c).toNat).map pr) bs->Q (.dat (.tuple [.int ((yR ((zr c (g-c).toNat).map pr) bs).sum+fee),.list (xM ((zr c (g-c).toNat).map .int) (((zr c (g-c).toNat).map pr).map .int) (bs.map .bool)),.int fee]))
section
variable {P:Program}{w:World}{K:PySem.W.Frag}{mg:Str->Option Value}{base:Heap}{cs:Cs}
theorem zm8 {C:Addr}(F:FnD K mg "night_prices" sNP ["book","nights"])(f:yQ P w K mg base C "tells_of" 2 (vC C cs)):Cal P w K mg base "night_prices" 3 (zB8 C cs):=by
 refine zX ["book","nights","prices","night","price"] F λ_ _ k _ _ _ _ _ Q nd hr h=>?_;obtain⟨ds,ns,pr,rfl,g,j,c,q⟩:=h;refine yz 2 nd (yL (zx ⟨_,rfl,zJ8 _,?_⟩));refine qX (pat:=.one 3) zZ7 rfl (zM (i:=3) nd rfl (Or.inl rfl)) (zZ (zg 1 rfl ⟨_,rfl,?_⟩));refine zH (λi α=>∃a b:Option A,α=[some (.dat (zC C cs ds)),some (.dat (.list (ns.map .int))),some (.own (((ns.take i).map pr).map .int)),a,b]) ⟨none,none,rfl⟩ ?_ ?_
 ·rintro i d α hd ⟨a,b,rfl⟩;rw[zK0,zL5]at hd;obtain⟨z,hz,rfl⟩:=hd;have hi:i<ns.length:=(zI8.mp hz).1;have e:=c z (zL8 hz);refine⟨_,rfl,?_⟩;refine yU 4 nd (wH f hr (zg 0 rfl ⟨_,rfl,rfl,zm (vo (zm (zg 3 rfl (zx ⟨ds,_,_,rfl,g,by simp[words],?_⟩))))⟩));show SvS _ (List.set _ _ (some (.dat (zb ds "price" z)))) _ _;rw[e];refine va (ve (zg 4 rfl ?_));refine xi (λh=>by cases h) (λ_=>zt ?_);refine wK 2 rfl (zg 4 rfl ⟨by rw[zI5,zI5,zO9];lia,zt ⟨some (.dat (.int z)),some (.dat (.int (pr z))),?_⟩⟩);rw[zQ8,hz,zV4,zV4];rfl
 ·rintro α ⟨a,b,rfl⟩;rw[zI5,zO4];exact xy 2 rfl q
theorem zy9 :zz ["book","stay","nights","prices","marks","fee","rows","paid"] (zf si) ["row"] [none] zb3:=⟨rfl,by decide +kernel,by decide +kernel,by decide +kernel,by decide +kernel,rfl,by decide +kernel⟩
theorem eH {C:Addr}(F:FnD K mg "bill" si ["book","stay"])(nb:NbT mg)(u:yQ P w K mg base C "tells_of" 2 (vC C cs))(A:Cal P w K mg base "nights_of" 1 tX)(J:Cal P w K mg base "night_prices" 3 (zB8 C cs))(B:Cal P w K mg base "marked" 4 sN):
  Cal P w K mg base "bill" 5 (eY C cs):=by
 refine zX ["book","stay","nights","prices","marks","fee","rows","paid"] F λf cdv I outer s H E _ Q nd hr h=>?_;obtain⟨ds,c,g,fee,pr,rfl,r,N,D,gl,M,e,a,l,q⟩:=h;generalize hn:(g-c).toNat=n at q;have v:0<n:=by lia
 have L:n<=400:=by lia
 refine yU 2 nd (EvL.d (xA A (hr.mono (by decide)) (by rfl) (zm (zg 1 rfl (zx ⟨c,g,rfl,by lia,D,by lia,by lia,_,rfl,?_⟩)))));rw[hn];refine yU 3 nd (EvL.d (xA J (hr.mono (by decide)) (by rfl) (zm (zg 0 rfl (zm (zg 2 rfl (zx ⟨ds,zr c n,pr,rfl,r,by rw[zc];lia,λz hz=>(e z (zY.mp hz).1 (by have:=(zY.mp hz).2;lia)).1,_,rfl,?_⟩)))))));have m:((zr c n).map pr).length=n:=by rw[zI5,zc]
 refine yU 4 nd (EvL.d (xA B hr (by rfl) (zm (zg 3 rfl (zm (wH u (hr.mono (by decide)) (zg 0 rfl ⟨_,rfl,rfl,zm (vo (zm (xB (λ_ _=>rfl) (zg 1 rfl (yg ⟨_,_,_,rfl,rfl,at0,zx ⟨ds,_,_,rfl,r,by simp[words],zx ⟨_,_,rfl,by lia,?_⟩⟩⟩)))))⟩)))))));have key:∀bs,xY (zb ds "deal" c) ((zr c n).map pr) bs->SvS (wq CX0 P w K mg base ["book","stay","nights","prices","marks","fee","rows","paid"] "bill" (zf si) f cdv I outer s H E).nox
   [some (.dat (zC C cs ds)),some (.dat (.tuple [.int c,.int g])),some (.dat (.list ((zr c n).map .int))),some (.dat (.list (((zr c n).map pr).map .int))),some (.dat (.list (bs.map .bool))),none,none,none] ((zw si).drop 3) {nx:=λ_=>Q (.dat .none),rt:=Q}:=by
  intro bs mk;have o:=mk.len;refine yU 5 nd (wH u (hr.mono (by decide)) (zg 0 rfl ⟨_,rfl,rfl,zm (vo (zm (xB (λ_ _=>rfl) (zg 1 rfl (yg ⟨_,_,_,rfl,rfl,at0,zx ⟨ds,_,_,rfl,r,by simp[words],?_⟩⟩)))))⟩));show SvS _ (List.set _ _ (some (.dat (zb ds "fee" c)))) _ _;rw[l];refine yU 6 nd (EvL.d (pZ rfl (by rfl) nb.list (by rfl) nb.zip (zm (zg 2 rfl (zm (zg 3 rfl (zm (zg 4 rfl (zx ⟨_,_,_,rfl,?_,?_,?_,?_,?_⟩)))))))))
  ·rw[zI5,zI5,zI5]
  ·rw[zI5,zI5,o,m,zc]
  ·rw[zI5,zc];lia
  ·rw[zI5,zc];lia
  have pm:∀z∈yR ((zr c n).map pr) bs,0<=z/\z<=1000000000000:=λz hz=>by
   obtain⟨y,hy,rfl⟩:=zX9.mp (ug hz);have hy:=zY.mp hy;exact(e y hy.1 (by lia)).2
  refine yU 7 nd (bp rfl (by rfl) nb.sum (EvL.d (ji (pat:=.one 0) rfl zy9 rfl (λ_ _ _ _=>zM (i:=0) zy9.nd rfl (Or.inl rfl)) (zZ (zg 6 rfl ⟨_,rfl,?_,?comp⟩)))))
  ·rw[vZ (by rw[zI5,zI5,zI5]) (by rw[zI5,zI5,o,m,zc]),zI5,zc];lia
  refine xQ (λd=>!tI d) (zk2 1) (λd hd=>?_) ?_
  ·obtain⟨j,G⟩:=List.mem_iff_getElem?.mp hd;obtain⟨x,y,z,e1,O,t,rfl⟩:=uz G;rw[zK0,zL5]at t;obtain⟨b,_,rfl⟩:=t;exact⟨_,rfl,λ_ _ _ _ _ k=>qt (cX (gI (xB (λ_ _=>rfl) (zg 0 rfl (yg ⟨_,_,_,rfl,rfl,wR (j:=2) rfl,⟨_,rfl,k⟩⟩))))),λ_ _ _ _ _ _ k=>xB (λ_ _=>rfl) (zg 0 rfl (yg ⟨_,_,_,rfl,rfl,wR (j:=1) rfl,k⟩))⟩
  ·rw[zV1,tR (by rw[m,zI5,zc]) (by rw[o,m,zI5,zc])];refine⟨_,rfl,λz hz=>by have:=pm z hz;lia,mB pm (zK1 (rN _ _) (by lia)),?_⟩;exact yV (nG (zm (pf (zg 7 rfl (zg 5 rfl ⟨_,_,rfl,rfl,zm (zg 6 rfl (zm (zg 5 rfl (zx ⟨_,rfl,zP9 rfl,q bs mk⟩))))⟩)))))
 rcases a with hd|⟨many,free,hd,m0,p⟩
 ·exact .inl ⟨hd,⟨_,rfl,key _ (.inl ⟨hd,rfl⟩)⟩⟩
 ·exact .inr ⟨many,free,hd,m0,p,λbs mk=>⟨_,rfl,key bs (.inr ⟨many,free,hd,mk⟩)⟩⟩
end
abbrev oW :Stmt:=top 54
abbrev zx7 :Stmt:=top 55
abbrev zf1 :Stmt:=top 56
abbrev zD6 :Stmt:=top 57
theorem iG {x:Str}(h:x∈words):zK (.str x) (oj x)=true:=by
 simp only[words,zJ1,zK5,zN1]at h;rcases h with rfl|rfl|rfl|rfl|rfl|rfl|rfl<;>decide +kernel
theorem zW {ds:List PyData}(h:∀d∈ds,zN d=true){x:Str}(b:x∈words)(day:Int):zK (.str x) (zb ds x day)=true:=by
 unfold zb;split
 ·rename_i d e;obtain⟨u,i,j,v,c,rfl,_,_,_,hw⟩:=zL (h d (zT2.mp (List.mem_of_find?_eq_some e)));have:=List.find?_some e;have a:(decide (u=x)&&(decide (i<=day)&&decide (day<=j)))=true:=this;rw[zN3,zS3]at a;rw[<-a.1];exact hw
 ·exact iG b
def isF :PyData->Bool
 |.bool b=>!b
 |_=>false
def intOf :PyData->Int
 |.int i=>i
 |_=>0
section
variable {ds:List PyData}(h:∀d∈ds,zN d=true)(day:Int)
include h
theorem zl0 :∃b,zb ds "come" day=.bool b:=bool_inv (by rw[<-sZ];exact zW h (by simp[words]) day)
theorem zH8 :∃b,zb ds "go" day=.bool b:=bool_inv (by rw[<-nj];exact zW h (by simp[words]) day)
theorem aV :∃i,zb ds "least" day=.int i/\1<=i/\i<=14:=zy (by rw[<-uL];exact zW h (by simp[words]) day)
theorem zs2 :∃i,zb ds "most" day=.int i/\1<=i/\i<=14:=zy (by rw[<-su];exact zW h (by simp[words]) day)
theorem zD4 :∃i,zb ds "fee" day=.int i/\0<=i/\i<=1000000000000:=zy (by
 have:=zW h (x:="fee") (by simp[words]) day;rw[rL]at this;exact this)
theorem bF :zb ds "price" day=.none\/∃i,zb ds "price" day=.int i/\0<=i/\i<=1000000000000:=by
 have:=zW h (x:="price") (by simp[words]) day;rw[uQ,zX2]at this;rcases this with z|z
 ·left;cases e:zb ds "price" day with
  |none=>rfl
  |_=>rw[e]at z;cases z
 ·exact .inr (zy z)
end
def pB (x:Str)(d:Int):PyData:=.tuple [.str x,.int d]
def yr (ds:List PyData)(c:Int)(n:Nat):List PyData:=((zr c n).filter λz=>xw (zb ds "price" z)).map (pB "price")
def opt (b:Bool)(d:PyData):List PyData:=if b=true then [d]else []
def yZ (ds:List PyData)(c g:Int):List PyData:=yr ds c (g-c).toNat++opt (isF (zb ds "come" c)) (pB "come" c)++opt (isF (zb ds "go" g)) (pB "go" g)++opt (decide (g-c<intOf (zb ds "least" c))) (pB "least" c)++opt (decide (intOf (zb ds "most" c)<g-c)) (pB "most" c)
theorem vN (b:Bool)(d:PyData):(opt b d).length<=1:=by unfold opt;split<;>simp
theorem uX (ds:List PyData)(c:Int)(n:Nat):(yr ds c n).length<=n:=by
 unfold yr;rw[zI5];have:=z25 (λz=>xw (zb ds "price" z)) (zr c n);rw[zc]at this;exact this
def qO (C:Addr)(cs:Cs):Ph:=λas Q=>∃ds c g,as=[.dat (zC C cs ds),.dat (.tuple [.int c,.int g])]/\Rules ds/\-100<=c/\c<g/\g<=c+100/\c<=1000100/\Q (.own (yZ ds c g))
def bu :Scope:=match zw oW with
 |[_,_,.Assign _ (.ListComp _ _ sc _) _,_,_,_,_,_]=>sc
 |_=>zf oW
section
variable {P:Program}{w:World}{K:PySem.W.Frag}{mg:Str->Option Value}{base:Heap}{cs:Cs}
theorem zy4 :zz ["book","stay","come","go","told"] (zf oW) ["night","book"] [none,some 0] bu:=⟨rfl,by decide +kernel,by decide +kernel,by decide +kernel,by decide +kernel,rfl,by decide +kernel⟩
theorem pU (ds:List PyData)(ns:List Int)(f:PyData->Bool)(hf:∀z,f (.int z)=xw (zb ds "price" z))(g:PyData->PyData)(hg:∀z,g (.int z)=pB "price" z):((ns.map PyData.int).filter f).map g=(ns.filter λz=>xw (zb ds "price" z)).map (pB "price"):=by
 rw[List.filter_map,List.map_map];have e1:(f∘PyData.int)=λz=>xw (zb ds "price" z):=funext hf;have a:(g∘PyData.int)=pB "price":=funext hg;rw[e1,a]
def zz2 :PyData->Int
 |.int z=>z
 |_=>0
abbrev qU (C:Addr)(cs:Cs)(ds:List PyData)(c g:Int)(l:List PyData):List (Option A):=[some (.dat (zC C cs ds)),some (.dat (.tuple [.int c,.int g])),some (.dat (.int c)),some (.dat (.int g)),some (.own l)]
theorem fk {C:Addr}(F:FnD K mg "bars" oW ["book","stay"])(p:Cal P w K mg base "nights_of" 1 tX)(t:yQ P w K mg base C "tells_of" 2 (vC C cs)):Cal P w K mg base "bars" 3 (qO C cs):=by
 refine zX ["book","stay","come","go","told"] F λ_ _ _ _ _ _ _ _ Q nd hr h=>?_;obtain⟨ds,c,g,rfl,e,v,x,g1,u,q⟩:=h;have j:∀d∈ds,zN d=true:=λd hd=>(e d hd).1;refine yU 2 nd (xB (λ_ _=>rfl) (zg 1 rfl (yg (⟨_,_,_,rfl,rfl,rfl,?_⟩))));refine yU 3 nd (xB (λ_ _=>rfl) (zg 1 rfl (yg (⟨_,_,_,rfl,rfl,rfl,?_⟩))));refine uE (·=qU C cs ds c g (yr ds c (g-c).toNat)) ?_ ?_
 ·refine eN 4 (pat:=.one 0) nd rfl zy4 rfl (λ_ _ _ _=>zM (i:=0) zy4.nd rfl (by first|exact Or.inl rfl|exact Or.inr rfl)) (zZ (EvL.d (xA p (hr.mono (by decide)) (by rfl) (zm (zg 1 rfl (zx (⟨c,g,rfl,by lia,by lia,by lia,by lia,⟨_,rfl,⟨_,rfl,⟨by rw[zI5,zc];lia,?comp⟩⟩⟩⟩)))))))
  case comp=>
   refine xQ (λd=>xw (zb ds "price" (zz2 d))) (λd=>pB "price" (zz2 d)) (λd hd=>?_) ?_
   ·obtain⟨z,_,rfl⟩:=zX9.mp hd;refine⟨_,rfl,λC s2 s fp Q k=>qt (ve (wH t hr (zg 1 rfl ⟨_,rfl,rfl,zm (vo (zm (zg 0 rfl (zx ⟨ds,_,_,rfl,e,by simp[words],k⟩))))⟩))),λ_ C s2 s fp Q k=>nG (zm (vo (zm (zg 0 rfl (zx (⟨_,rfl,zP9 rfl,k⟩))))))⟩
   ·refine zt ?_;rw[zV1,pU ds _ _ (λ_=>rfl) _ (λ_=>rfl)];rfl
 rintro α rfl;have r:=uX ds c (g-c).toNat;obtain⟨m,f⟩:=zl0 j c;obtain⟨o,n⟩:=zH8 j g;obtain⟨a,el,_,_⟩:=aV j c;obtain⟨im,em,_,_⟩:=zs2 j c;have B:∀(l:List PyData) (b:Bool) (d:PyData) (k:Nat),l.length<=k->(l++opt b d).length<=k+1:=λl b d k h=>by have:=vN b d;rw[zL4];lia
 have l1:=B _ (isF (zb ds "come" c)) (pB "come" c) _ r;have l2:=B _ (isF (zb ds "go" g)) (pB "go" g) _ l1;have l3:=B _ (decide (g-c<intOf (zb ds "least" c))) (pB "least" c) _ l2;unfold yZ at q;rw[f,n,el,em]at q;rw[f,n,el]at l3;rw[f,n]at l2;rw[f]at l1;refine uE (·=qU C cs ds c g (yr ds c (g-c).toNat++opt (isF (.bool m)) (pB "come" c))) ?_ ?_
 ·and_intros;refine⟨ds,_,_,rfl,e,by simp[words],⟨m,by rw[f];rfl,?_⟩⟩;cases m<;>and_intros
  ·exact⟨by lia,zt (zt rfl)⟩
  ·exact congrArg (qU C cs ds c g) (zO1 _).symm
 rintro α rfl;generalize yr ds c (g-c).toNat++opt (isF (.bool m)) (pB "come" c)=acc at *;refine uE (·=qU C cs ds c g (acc++opt (isF (.bool o)) (pB "go" g))) ?_ ?_
 ·and_intros;refine⟨ds,_,_,rfl,e,by simp[words],⟨o,by rw[n];rfl,?_⟩⟩;cases o<;>and_intros
  ·exact⟨by lia,zt (zt rfl)⟩
  ·exact congrArg (qU C cs ds c g) (zO1 _).symm
 rintro α rfl;generalize acc++opt (isF (.bool o)) (pB "go" g)=acc at *;refine uE (·=qU C cs ds c g (acc++opt (decide (g-c<a)) (pB "least" c))) ?_ ?_
 ·and_intros;refine⟨ds,_,_,rfl,e,by simp[words],⟨_,a,rfl,el,?_⟩⟩;generalize decide (g-c<a)=b;cases b<;>and_intros
  ·exact congrArg (qU C cs ds c g) (zO1 _).symm
  ·exact⟨by lia,zt (zt rfl)⟩
 rintro α rfl
 change (acc++opt (decide (g-c<a)) (pB "least" c)).length<=_ at l3
 change Q (.own (acc++opt (decide (g-c<a)) (pB "least" c)++_))at q
 generalize acc++opt (decide (g-c<a)) (pB "least" c)=acc at *;refine uE (·=qU C cs ds c g (acc++opt (decide (im<g-c)) (pB "most" c))) ?_ ?_
 ·and_intros;refine⟨ds,_,_,rfl,e,by simp[words],⟨_,im,rfl,em,?_⟩⟩;generalize decide (im<g-c)=b;cases b<;>and_intros
  ·exact congrArg (qU C cs ds c g) (zO1 _).symm
  ·exact⟨by lia,zt (zt rfl)⟩
 rintro α rfl;exact xy 4 rfl q
end
theorem fw {d:PyData}(h:uK d=true):∃many free:Nat,d=.tuple [.int many,.int free]/\0<free/\free<many/\many<64:=by
 unfold uK at h;split at h
 ·rename_i m r;rw[zN3]at h;obtain⟨i,e,f,i1⟩:=zy h.1;obtain⟨j,a,c,b⟩:=zy h.2;subst a;injection e with e;subst e;refine⟨m.toNat,j.toNat,?_,by lia,by lia,by lia⟩;rw[show((m.toNat:Nat):Int)=m by lia,show((j.toNat:Nat):Int)=j by lia]
 ·cases h
theorem fi {ds:List PyData}(h:∀d∈ds,zN d=true)(day:Int):cj (zb ds "deal" day):=by
 have:=zW h (x:="deal") (by simp[words]) day;rw[tO,zX2]at this;rcases this with z|z
 ·left;cases e:zb ds "deal" day with
  |none=>rfl
  |_=>rw[e]at z;cases z
 ·exact .inr (fw z)
theorem zq.all {ds:List PyData}(h:zq ds):∀d∈ds,zN d=true:=λd hd=>(h d hd).rule
def pY (ds:List PyData)(c g:Int):Prop:=∀z,c<=z->z<g->xw (zb ds "price" z)=false
def prs (ds:List PyData)(c g:Int):List Int:=(zr c (g-c).toNat).map λz=>intOf (zb ds "price" z)
def wb (ds:List PyData)(c:Int):Int:=intOf (zb ds "fee" c)
theorem sD {ds:List PyData}{c g z:Int}(h:zq ds)(s:pY ds c g)(h0:c<=z)(a:z<g):zb ds "price" z=.int (intOf (zb ds "price" z))/\0<=intOf (zb ds "price" z)/\intOf (zb ds "price" z)<=1000000000000:=by
 rcases bF h.all z with e|⟨i,e,b,i1⟩
 ·have:=s z h0 a;rw[e]at this;cases this
 ·rw[e];exact⟨rfl,b,i1⟩
theorem bK {ds:List PyData}(h:zq ds)(c:Int):zb ds "fee" c=.int (wb ds c)/\0<=wb ds c/\wb ds c<=1000000000000:=by
 obtain⟨i,e,a,i1⟩:=zD4 h.all c;unfold wb;rw[e];exact⟨rfl,a,i1⟩
def wZ (c g:Int):Prop:=0<=c/\c<g/\g<=c+14/\g<=1000000
def qW (C:Addr)(cs:Cs):Ph:=λas Q=>∃(ds:List PyData) (c g:Int),as=[.dat (zC C cs ds),.dat (.tuple [.int c,.int g])]/\zq ds/\wZ c g/\pY ds c g/\
 ∀bs rows,xY (zb ds "deal" c) (prs ds c g) bs->Q (.dat (.tuple [.int ((yR (prs ds c g) bs).sum+wb ds c),rows,.int (wb ds c)]))
def vB (ds:List PyData)(c g:Int):Bool:=(yZ ds c g).isEmpty
noncomputable def zc0 (ds:List PyData)(c g:Int):List Bool:=Classical.epsilon λbs=>xY (zb ds "deal" c) (prs ds c g) bs
noncomputable def coD (ds:List PyData)(c g:Int):Int:=(yR (prs ds c g) (zc0 ds c g)).sum+wb ds c
noncomputable def coO (ds:List PyData)(c g:Int):Option Int:=if vB ds c g=true then some (coD ds c g)else none
def oD :Option Int->PyData
 |some z=>.int z
 |none=>.none
theorem zE2 {ds:List PyData}{c g y:Int}(a:zq ds)(so:pY ds c g)(h:y∈prs ds c g):0<=y/\y<=1000000000000:=by
 obtain⟨z,hz,rfl⟩:=zX9.mp h;have hz:=zY.mp hz;exact(sD a so hz.1 (by lia)).2
theorem zi0 {ds:List PyData}{c g:Int}{bs:List Bool}(b:zq ds)(so:pY ds c g)(mk:xY (zb ds "deal" c) (prs ds c g) bs):(yR (prs ds c g) bs).sum+wb ds c=coD ds c g:=by
 have a:xY (zb ds "deal" c) (prs ds c g) (zc0 ds c g):=Classical.epsilon_spec (p:=λbs=>xY (zb ds "deal" c) (prs ds c g) bs) ⟨bs,mk⟩;unfold coD;rw[gq (fi b.all c) mk a]
theorem xt {α:Type}{a b:List α}:(a++b).isEmpty=(a.isEmpty&&b.isEmpty):=by cases a<;>rfl
theorem tH {b:Bool}{d:PyData}:(opt b d).isEmpty=!b:=by cases b<;>rfl
theorem za7 {ds:List PyData}{c g:Int}:vB ds c g=true↔pY ds c g/\isF (zb ds "come" c)=false/\isF (zb ds "go" g)=false/\¬g-c<intOf (zb ds "least" c)/\¬intOf (zb ds "most" c)<g-c:=by
 unfold vB yZ;rw[xt,xt,xt,xt,tH,tH,tH,tH];have:(yr ds c (g-c).toNat).isEmpty=true↔pY ds c g:=by
  unfold yr pY;rw[List.isEmpty_iff,List.map_eq_nil_iff,List.filter_eq_nil_iff];refine⟨λh z a b=>?_,λh z hz=>?_⟩
  ·have:=h z (zY.mpr ⟨a,by lia⟩);simpa using this
  ·have hz:=zY.mp hz;rw[h z hz.1 (by lia)];decide
 simp only[zN3,this,Bool.not_eq_true',zS1,and_assoc]
theorem vM {ds:List PyData}{c g:Int}(h:vB ds c g=true):pY ds c g:=(za7.mp h).1
theorem oK {ds:List PyData}{c g:Int}(e:c<=g){d:PyData}(h:d∈yZ ds c g):∃(x:Str) (z:Int),d=pB x z/\x∈words/\c<=z/\z<=g:=by
 unfold yZ at h;simp only[zK6]at h;have a:∀{b:Bool} {x:Str} {z:Int},d∈opt b (pB x z)->d=pB x z:=λ{b x z} h=>by
  cases b
  ·simp[opt]at h
  ·simpa[opt]using h
 rcases h with(((h|h)|h)|h)|h
 ·obtain⟨z,hz,rfl⟩:=zX9.mp h;have hz:=zY.mp (zX0.mp hz).1;exact⟨_,z,rfl,by simp[words],hz.1,by lia⟩
 ·exact⟨_,c,a h,by simp[words],by lia,by lia⟩
 ·exact⟨_,g,a h,by simp[words],by lia,by lia⟩
 ·exact⟨_,c,a h,by simp[words],by lia,by lia⟩
 ·exact⟨_,c,a h,by simp[words],by lia,by lia⟩
theorem kD {x:Str}{z:Int}(c:x∈words)(h0:-100<=z)(d:z<=2000000):zQ 5000 (pB x z)/\(pB x z).depth<=1:=by
 have b:(2000001:Int)<big:=by decide
 have a:-big<(-100:Int):=by decide
 exact⟨zQ.tuple (n:=2000) (yb.two (qm c) (zQ.int (by lia) (by lia)) (zJ8 _) (zJ8 _)) (by show 2*(2000+2)+3<=5000;decide),by simp[pB,PyData.depth,PyData.depthAll]⟩
theorem cN {ds:List PyData}{c g:Int}:(yZ ds c g).length<=(g-c).toNat+4:=by
 unfold yZ;simp only[zL4];have h0:=uX ds c (g-c).toNat;have a:=vN (isF (zb ds "come" c)) (pB "come" c);have b:=vN (isF (zb ds "go" g)) (pB "go" g);have d:=vN (decide (g-c<intOf (zb ds "least" c))) (pB "least" c);have e:=vN (decide (intOf (zb ds "most" c)<g-c)) (pB "most" c)
 lia
theorem ui {ds:List PyData}{c g:Int}(sb:wZ c g):zQ sizeLine (.list (yZ ds c g)):=by
 obtain⟨f,j,g1,g2⟩:=sb;refine zQ.list (n:=5000) ⟨λd hd=>?_,λd hd=>?_⟩ ?_
 ·obtain⟨x,z,rfl,e,a,b⟩:=oK (by lia) hd;exact(kD e (by lia) (by lia)).1
 ·obtain⟨x,z,rfl,e,a,b⟩:=oK (by lia) hd;have:=(kD e (z:=z) (by lia) (by lia)).2
  lia
 ·have h:(yZ ds c g).length*(5000+2)<=18*(5000+2):=Nat.mul_le_mul_right _ (by have:=cN (ds:=ds) (c:=c) (g:=g);lia);have i:18*(5000+2)+2<=sizeLine:=by decide
  lia
theorem lL {ds:List PyData}:PyData.eqv (.list ds) (.list [])=ds.isEmpty:=by
 cases ds<;>rfl
def dH (C:Addr)(cs:Cs):Ph:=λas Q=>∃(ds:List PyData) (c g:Int),as=[.dat (zC C cs ds),.dat (.tuple [.int c,.int g])]/\zq ds/\wZ c g/\Q (.dat (.bool (vB ds c g)))
def zh9 (C:Addr)(cs:Cs):Ph:=λas Q=>∃(ds:List PyData) (c g:Int),as=[.dat (zC C cs ds),.dat (.tuple [.int c,.int g])]/\zq ds/\wZ c g/\Q (.dat (oD (coO ds c g)))
def ff (C:Addr)(cs:Cs):Ph:=λas Q=>∃(ds:List PyData) (c g:Int),as=[.dat (zC C cs ds),.dat (.tuple [.int c,.int g])]/\zq ds/\wZ c g/\vB ds c g=true/\Q (.dat (.int (coD ds c g)))
section
variable {P:Program}{w:World}{K:PySem.W.Frag}{mg:Str->Option Value}{base:Heap}{cs:Cs}
theorem jA {C:Addr}(b:Cal P w K mg base "bill" 5 (eY C cs)):Cal P w K mg base "bill" 5 (qW C cs):=by
 refine b.imp λas Q h=>?_;obtain⟨ds,c,g,rfl,a,⟨i,l,g1,g2⟩,so,q⟩:=h;refine⟨ds,c,g,wb ds c,λz=>intOf (zb ds "price" z),rfl,a.rules,i,l,by lia,by lia,λz j k=>sD a so j k,?_,(bK a c).1,λbs mk=>q bs _ mk⟩;rcases fi a.all c with e|⟨m,f,e,f0,n,d⟩
 ·exact .inl e
 ·exact .inr ⟨m,f,e,by lia,d⟩
theorem aK {C:Addr}(F:FnD K mg "can_be_had" zx7 ["book","stay"])(b:Cal P w K mg base "bars" 3 (qO C cs)):Cal P w K mg base "can_be_had" 4 (dH C cs):=by
 refine zX ["book","stay"] F λ_ _ e _ _ _ _ _ Q nd hr h=>?_;obtain⟨ds,c,g,rfl,a,sb,q⟩:=h;obtain⟨f,i,g1,g2⟩:=id sb;and_intros;refine⟨ds,c,g,rfl,a.rules,by lia,by lia,by lia,by lia,?_⟩;and_intros;exact eqk (ui sb).shaped rfl (ui sb).nod rfl (by rw[show PyData.eqv (A.own (yZ ds c g)).d (.list [])=vB ds c g from lL];exact q)
theorem fR {C:Addr}(F:FnD K mg "cost" zf1 ["book","stay"])(f:Cal P w K mg base "bars" 3 (qO C cs))(e:Cal P w K mg base "bill" 5 (qW C cs)):Cal P w K mg base "cost" 6 (ff C cs):=by
 refine zX ["book","stay","found"] F λ_ _ _ _ _ _ _ _ Q nd hr h=>?_;obtain⟨ds,c,g,rfl,b,sb,a,q⟩:=h;obtain⟨i,j,g1,g2⟩:=id sb;have d:yZ ds c g=[]:=List.isEmpty_iff.mp a;and_intros;refine⟨ds,c,g,rfl,b.rules,by lia,by lia,by lia,by lia,?_⟩;rw[d];and_intros;refine⟨ds,c,g,rfl,b,sb,vM a,λbs rows mk=>?_⟩;and_intros;show Q _;rw[zi0 b (vM a) mk];exact q
theorem za2 {C:Addr}(F:FnD K mg "cost_or_none" zD6 ["book","stay"])(d:Cal P w K mg base "can_be_had" 4 (dH C cs))(b:Cal P w K mg base "bill" 5 (qW C cs)):Cal P w K mg base "cost_or_none" 6 (zh9 C cs):=by
 refine zX ["book","stay"] F λ_ _ _ _ _ _ _ _ Q nd hr h=>?_;obtain⟨ds,c,g,rfl,a,sb,q⟩:=h;and_intros;refine⟨ds,c,g,rfl,a,sb,?_⟩;and_intros;refine fN (λe=>?_) (λe=>?_)
 ·and_intros;refine⟨ds,c,g,rfl,a,sb,vM e,λbs rows mk=>?_⟩;and_intros;show Q _;rw[zi0 a (vM e) mk];unfold coO at q;rw[if_pos e]at q;exact q
 ·and_intros;unfold coO at q;rw[if_neg (by rw[e];decide)]at q;exact q
end
theorem take_snoc {β:Type}{l:List β}{i:Nat}{d:β}(h:l[i]?=some d):l.take (i+1)=l.take i++[d]:=by rw[zQ8,h];rfl
def lW :Ph:=λas Q=>∃y:Int,as=[.tape,.dat (.int y)]/\0<=y/\y<=1000000/\∀c g:Int,wZ c g->Q (.dat (.tuple [.int c,.int g]))
section
variable {P:Program}{w:World}{K:PySem.W.Frag}{mg:Str->Option Value}{base:Heap}
theorem iI (F:FnD K mg "_law_stay" fC ["_law_row","_law_day_here"])(nb:NbT mg)(b:Cal P w K mg base "_law_take" 1 xP):Cal P w K mg base "_law_stay" 2 lW:=by
 refine zX ["_law_row","_law_day_here","_law_come","_law_nights"] F λ_ _ _ _ _ _ _ _ Q nd hr h=>?_;obtain⟨y,rfl,c,a,q⟩:=h;and_intros;refine⟨⟨by decide,by decide +kernel⟩,?_⟩;refine qp (λd=>∃z:Int,d=.int z/\0<=z/\z<=13) rfl (by lia) (by show _<(3:Int);lia) ⟨⟨_,rfl,by lia,by lia⟩,⟨_,rfl,by lia,by lia⟩,⟨_,rfl,by lia,by lia⟩,trivial⟩ ?_;rintro _ ⟨z,rfl,f,e⟩;and_intros;refine q _ _ ⟨?_,?_,?_,?_⟩<;>repeat split
 all_goals lia
end
theorem xm {ds:List PyData}{x:Str}{d e:Int}(h:∀r∈ds,yu x d r=yu x e r):zb ds x d=zb ds x e:=by
 unfold zb;have:ds.reverse.find? (yu x d)=ds.reverse.find? (yu x e):=by
  have key:∀l:List PyData,(∀r∈l,yu x d r=yu x e r)->l.find? (yu x d)=l.find? (yu x e):=by
   intro l
   induction l with
   |nil=>intro _;rfl
   |cons a l c=>
    intro b;rw[zO8,zO8,b a zJ6,c λr hr=>b r (zJ2 _ hr)]
  exact key _ λr hr=>h r (zT2.mp hr)
 rw[this]
theorem qC {d:Int}:∀(ys:List Int),(∃y∈ys,y<=d)->∃e∈ys,e<=d/\∀y∈ys,y<=d->y<=e
 |[],h=>by obtain⟨y,hy,_⟩:=h;simp at hy
 |a::ys,h=>by
  by_cases c:∃y∈ys,y<=d
  ·obtain⟨e,he,hd,hm⟩:=qC ys c;by_cases ha:a<=d/\e<a
   ·exact⟨a,zJ6,ha.1,λy hy b=>by
     rcases zJ1.mp hy with rfl|hy
     ·exact zS9 _
     ·have:=hm y hy b;lia⟩
   ·exact⟨e,zJ2 _ he,hd,λy hy b=>by
     rcases zJ1.mp hy with rfl|hy
     ·lia
     ·exact hm y hy b⟩
  ·obtain⟨y,hy,b⟩:=h;rcases zJ1.mp hy with rfl|hy
   ·exact⟨y,zJ6,b,λz hz f=>by
     rcases zJ1.mp hz with rfl|hz
     ·exact zS9 _
     ·exact absurd ⟨z,hz,f⟩ c⟩
   ·exact absurd ⟨y,hy,b⟩ c
theorem sv {x:Str}{r:PyData}{p q:Int}(hr:zN r=true)(d:p<=q)(h:∀a b v,r=.tuple [.str x,.int a,.int b,v]->¬(p<a/\a<=q)/\¬(p<b+1/\b+1<=q)):yu x q r=yu x p r:=by
 obtain⟨u,a,b,v,f,rfl,k,j,l,hw⟩:=zL hr;show(decide (u=x)&&(decide (a<=q)&&decide (q<=b)))=(decide (u=x)&&(decide (a<=p)&&decide (p<=b)));by_cases c:u=x
 ·subst c;obtain⟨g,i⟩:=h a b v rfl;have e1:decide (a<=q)=decide (a<=p):=by
   by_cases z:a<=q
   ·rw[zM1 z,zM1 (by lia)]
   ·rw[zL2 z,zL2 (by lia)]
  have e:decide (q<=b)=decide (p<=b):=by
   by_cases z:q<=b
   ·rw[zM1 z,zM1 (by lia)]
   ·rw[zL2 z,zL2 (by lia)]
  rw[e1,e]
 ·rw[zL2 c,zW1,zW1]
theorem fG {β:Type}{f:Int->β}{c e:Int}:∀{n:Nat},(∀i:Nat,i<n->f (c+i)=f (e+i))->(zr c n).map f=(zr e n).map f:=λ{n} h=>by
 refine List.ext_getElem? λi=>?_;rw[zK0,zK0];rcases zN2 i n with z|z
 ·rw[yF z,yF z];exact congrArg some (h i z)
 ·rw[zT3 (by rw[zc];exact z),zT3 (by rw[zc];exact z)]
theorem aB {l:List Int}{f:Int->Bool}:(l.filter f).isEmpty=!(l.map f).any id:=by
 induction l with
 |nil=>rfl
 |cons a l b=>
  rw[zW4,zM9,zY6];cases h:f a with
  |true=>simp
  |false=>simpa using b
theorem aH {β:Type}(a b:List β):(a++b).isEmpty=(a.isEmpty&&b.isEmpty):=by cases a<;>rfl
theorem bR (b:Bool)(d:PyData):(opt b d).isEmpty=!b:=by cases b<;>rfl
theorem aI {β b:Type}(f:β->b)(a:List β):(a.map f).isEmpty=a.isEmpty:=by cases a<;>rfl
theorem iO {ds:List PyData}{c e:Int}{n:Nat}(a:∀i:Nat,i<n->zb ds "price" (c+i)=zb ds "price" (e+i))(g:zb ds "come" c=zb ds "come" e)(h:zb ds "least" c=zb ds "least" e)(k:zb ds "most" c=zb ds "most" e)(o:zb ds "deal" c=zb ds "deal" e)(d:zb ds "fee" c=zb ds "fee" e)(m:zb ds "go" (c+n)=zb ds "go" (e+n)):coO ds c (c+n)=coO ds e (e+n):=by
 have n1:(c+n-c).toNat=n:=by lia
 have n2:(e+n-e).toNat=n:=by lia
 have j:c+n-c=(n:Int):=by lia
 have b:e+n-e=(n:Int):=by lia
 have l:vB ds c (c+n)=vB ds e (e+n):=by
  unfold vB yZ yr;simp only[aH,bR,aI,aB,n1,n2,j,b,g,h,k,m,zQ7];rw[fG (c:=c) (e:=e) (f:=λz=>xw (zb ds "price" z)) λi hi=>congrArg xw (a i hi)]
 have ep:prs ds c (c+n)=prs ds e (e+n):=by
  unfold prs;rw[n1,n2];exact fG λi hi=>congrArg intOf (a i hi)
 unfold coO coD zc0 wb;rw[l,ep,o,d]
structure Trn (ds:List PyData)(n:Nat)(ys:List Int):Prop where
 zero:0∈ys
 lo:∀y∈ys,0<=y
 hi:∀y∈ys,y+n<=1000000
 at':∀(x:Str) (a b:Int) (v:PyData),.tuple [.str x,.int a,.int b,v]∈ds->∀d:Int,0<=d->d+n<=1000000->(x="go"->d+n=a\/d+n=b+1->d∈ys)/\(x≠"go"->x≠"price"->d=a\/d=b+1->d∈ys)/\(x="price"->∀i:Nat,i<n->d+i=a\/d+i=b+1->d∈ys)
theorem Trn.same {ds es:List PyData}{n:Nat}{ys:List Int}(p:∀d∈ds,zN d=true)(re:∀d∈es,zN d=true)(T:Trn (ds++es) n ys){c:Int}(o:0<=c)(s:c+n<=1000000):∃e∈ys,e<=c/\coO ds c (c+n)=coO ds e (e+n)/\coO es c (c+n)=coO es e (e+n):=by
 obtain⟨e,he,m,hm⟩:=qC ys ⟨0,T.zero,o⟩;have q:=T.lo e he;have key:∀h:List PyData,(∀r∈h,r∈ds++es/\zN r=true)->coO h c (c+n)=coO h e (e+n):=λh hg=>by
  have pl:∀x:Str,x≠"go"->x≠"price"->zb h x c=zb h x e:=λx k l=>xm λr hr=>sv (hg r hr).2 m λa b v f=>by
   subst f;exact⟨λ⟨j,g⟩=>by have:=hm a ((T.at' x a b v (hg _ hr).1 a (by lia) (by lia)).2.1 k l (.inl rfl)) g;lia,λ⟨j,g⟩=>by have:=hm (b+1) ((T.at' x a b v (hg _ hr).1 (b+1) (by lia) (by lia)).2.1 k l (.inr rfl)) g;lia⟩
  refine iO (λi hi=>?_) (pl _ (by decide) (by decide)) (pl _ (by decide) (by decide)) (pl _ (by decide) (by decide)) (pl _ (by decide) (by decide)) (pl _ (by decide) (by decide)) ?_
  ·refine xm λr hr=>sv (hg r hr).2 (by lia) λa b v f=>?_;subst f;exact⟨λ⟨j,g⟩=>by have:=hm (a-i) ((T.at' _ a b v (hg _ hr).1 (a-i) (by lia) (by lia)).2.2 rfl i hi (.inl (by lia))) (by lia);lia,λ⟨j,g⟩=>by have:=hm (b+1-i) ((T.at' _ a b v (hg _ hr).1 (b+1-i) (by lia) (by lia)).2.2 rfl i hi (.inr (by lia))) (by lia);lia⟩
  ·refine xm λr hr=>sv (hg r hr).2 (by lia) λa b v f=>?_;subst f;exact⟨λ⟨j,g⟩=>by have:=hm (a-n) ((T.at' _ a b v (hg _ hr).1 (a-n) (by lia) (by lia)).1 rfl (.inl (by lia))) (by lia);lia,λ⟨j,g⟩=>by have:=hm (b+1-n) ((T.at' _ a b v (hg _ hr).1 (b+1-n) (by lia) (by lia)).1 rfl (.inr (by lia))) (by lia);lia⟩
 exact⟨e,he,m,key ds λr hr=>⟨zL1 _ hr,p r hr⟩,key es λr hr=>⟨zK4 _ hr,re r hr⟩⟩
def oY (ds es:List PyData)(n:Nat):Prop:=∀c:Int,0<=c->c+n<=1000000->coO ds c (c+n)=coO es c (c+n)
theorem Trn.all {ds es:List PyData}{n:Nat}{ys:List Int}(b:∀d∈ds,zN d=true)(re:∀d∈es,zN d=true)(T:Trn (ds++es) n ys)(h:∀y∈ys,coO ds y (y+n)=coO es y (y+n)):oY ds es n:=λc a i=>by
 obtain⟨e,he,_,f,g⟩:=T.same b re a i;rw[f,g];exact h e he
structure bI (ds es:List PyData)(n:Nat)(c:Int):Prop where
 n1:1<=n
 n2:n<=14
 lo:0<=c
 hi:c+n<=1000000
 ne:coO ds c (c+n)≠coO es c (c+n)
 bef:∀m:Nat,1<=m->m<n->oY ds es m
 least:∀e:Int,0<=e->e<c->coO ds e (e+n)=coO es e (e+n)
def Apt (ds es:List PyData):Option (Nat×Int)->Prop
 |none=>∀m:Nat,1<=m->m<=14->oY ds es m
 |some q=>bI ds es q.1 q.2
noncomputable def zC5 (ds es:List PyData):Option (Nat×Int)->PyData
 |none=>.none
 |some q=>.tuple [.tuple [.int q.2,.int (q.2+q.1)],oD (coO ds q.2 (q.2+q.1)),oD (coO es q.2 (q.2+q.1))]
theorem bt {ds es:List PyData}{q r:Option (Nat×Int)}(h:Apt ds es q)(g:Apt ds es r):q=r:=by
 cases q with
 |none=>cases r with
  |none=>rfl
  |some r=>exact absurd (h r.1 g.n1 g.n2 r.2 g.lo g.hi) g.ne
 |some q=>cases r with
  |none=>exact absurd (g q.1 h.n1 h.n2 q.2 h.lo h.hi) h.ne
  |some r=>
   obtain⟨n,c⟩:=q;obtain⟨m,d⟩:=r;have h:bI ds es n c:=h;have g:bI ds es m d:=g;have a1:¬n<m:=λz=>h.ne (g.bef n h.n1 z c h.lo h.hi);have a2:¬m<n:=λz=>g.ne (h.bef m g.n1 z d g.lo g.hi);have e:n=m:=by lia
   subst e;have b:¬c<d:=λz=>h.ne (g.least c h.lo z);have a:¬d<c:=λz=>g.ne (h.least d g.lo z);have e:c=d:=by lia
   subst e;rfl
theorem Trn.fst {ds es:List PyData}{n:Nat}{ys:List Int}(p:∀d∈ds,zN d=true)(re:∀d∈es,zN d=true)(T:Trn (ds++es) n ys)(up:ys.Pairwise (·<=·))(n1:1<=n)(n2:n<=14)(al:∀m:Nat,1<=m->m<n->oY ds es m){j:Nat}{y:Int}(hy:ys[j]?=some y)(g:∀z∈ys.take j,coO ds z (z+n)=coO es z (z+n))(ne:coO ds y (y+n)≠coO es y (y+n)):bI ds es n y:=by
 have a:=zL8 hy;refine⟨n1,n2,T.lo y a,T.hi y a,ne,al,λe f e1=>?_⟩;obtain⟨u,c,q,l,o⟩:=T.same p re f (by have:=T.hi y a;lia);rw[l,o];obtain⟨k,hk⟩:=List.getElem?_of_mem c;have h:k<j:=by
  rcases zN2 k j with z|z
  ·exact z
  ·obtain⟨p1,p2⟩:=zI8.mp hy;obtain⟨p3,p4⟩:=zI8.mp hk;rcases zN2 j k with b|b
   ·have:=zR0.mp up j k p1 p3 b
    lia
   ·have:j=k:=by lia
    subst this
    lia
 exact g u (zL8 (i:=k) (by rw[List.getElem?_take_of_lt h,hk]))
abbrev sTb :Stmt:=top 60
abbrev sTn :Stmt:=top 61
abbrev zC0 :Stmt:=top 62
def tbL (u:Str)(a b:Int)(n:Nat):List Int:=if u="go" then [a-n,b+1-n]else if u="price" then zr (a-n+1) n++zr (b+1-n+1) n else [a,b+1]
theorem zo0 (u:Str)(a b:Int){n:Nat}(h:n<=14):(tbL u a b n).length<=28:=by
 unfold tbL;split
 ·simp
 ·split
  ·rw[zL4,zc,zc];lia
  ·simp
def zv8 :Ph:=λas Q=>∃(u:Str) (a b:Int) (v:PyData) (n:Nat),as=[.dat (.tuple [.str u,.int a,.int b,v]),.dat (.int n)]/\0<=a/\a<=b/\b<=1000000/\n<=14/\Q (.dat (.list ((tbL u a b n).map .int)))
def zA0 :Ph:=λas Q=>∃(ds:List PyData) (n:Nat),as=[.dat (.list ds),.dat (.int n)]/\(∀d∈ds,zN d=true)/\ds.length<=24/\1<=n/\n<=14/\∀ys:List Int,Trn ds n ys->ys.Pairwise (·<=·)->ys.length<=1000->Q (.dat (.list (ys.map .int)))
def gC (C:Addr)(cs:Cs):Ph:=λas Q=>∃ds es:List PyData,as=[.dat (zC C cs ds),.dat (zC C cs es)]/\zq ds/\zq es/\ds.length<=12/\es.length<=12/\∀q,Apt ds es q->Q (.dat (zC5 ds es q))
theorem wN (x:Option Int):SeqAt.shaped (oD x)=true/\(oD x).hasDict=false:=by cases x<;>exact⟨rfl,rfl⟩
theorem zp1 (x y:Option Int):PyData.eqv (oD x) (oD y)=decide (x=y):=by
 cases x<;>cases y<;>simp[oD,PyData.eqv]<;>rfl
section
variable {P:Program}{w:World}{K:PySem.W.Frag}{mg:Str->Option Value}{base:Heap}{cs:Cs}
theorem zu6 (F:FnD K mg "turns_by" sTb ["rule","many"])(nb:NbT mg):Cal P w K mg base "turns_by" 1 zv8:=by
 refine zX ["rule","many","edges","found","edge"] F λ_ _ _ _ _ _ _ _ Q nd hr h=>?_;obtain⟨u,a,b,v,n,rfl,p,m,o,n2,q⟩:=h;unfold tbL at q;and_intros;refine xi (λh=>?_) λh=>?_
 ·rw[if_pos (zX6 h)]at q;refine yV (EvL.d (me ["edge","many"] [none,some 1] (.one 0) (zZ (zg 2 rfl ⟨_,rfl,by simp,?_⟩))));refine jt (l:=[a,b+1]) (g:=PyData.int) (λe=>.int (e-n)) (λe _=>⟨_,rfl,λ_ _ _ _ _ k=>?_⟩) q;and_intros;exact k
 rw[if_neg (z03 h)]at q;and_intros;refine xi (λh=>?_) λh=>?_
 ·rw[if_neg (by simpa using h)]at q;and_intros;exact q
 rw[if_pos (by simpa using h)]at q;and_intros;refine yh (.one 4) (zZ (zg 2 rfl ⟨_,rfl,?_⟩));refine zH (λi α=>∃c:Option A,α=[some (.dat (.tuple [.str u,.int a,.int b,v])),some (.dat (.int n)),some (.dat (.list [.int a,.int (b+1)])),some (.own (((([a,b+1]:List Int).take i).flatMap λe=>zr (e-n+1) n).map .int)),c]) ⟨none,rfl⟩ ?_ ?_
 ·rintro i d α hd ⟨c,rfl⟩;have hd:(([a,b+1]:List Int).map PyData.int)[i]?=some d:=hd;rw[zK0,zL5]at hd;obtain⟨e,he,rfl⟩:=hd;have hi:=(zI8.mp he).1;have j:0<=e/\e<=1000001:=by
   have:=zL8 he;simp at this
   lia
  refine⟨_,rfl,uu 3 rfl (EvL.d (ph rfl (by rfl) nb.list (by rfl) nb.range ?_))⟩;and_intros;refine⟨⟨by lia,by lia,by lia,by lia⟩,by lia,_,rfl,?_,zt ⟨some (.dat (.int e)),?_⟩⟩
  ·have l:∀l:List Int,(l.flatMap λe=>zr (e-n+1) n).length=l.length*n:=λl=>by
    induction l with
    |nil=>simp
    |cons a l f=>rw[List.flatMap_cons,zL4,f,zc,zM0,Nat.add_mul];lia
   rw[zI5,zI5,zc,l,zO9];have:min i ([a,b+1]:List Int).length*n<=2*14:=Nat.mul_le_mul (by simp;lia) n2
   lia
  ·rw[zQ8,he,List.flatMap_append,zV4,show(e+1-(e-n+1)).toNat=n by lia];simp
 ·rintro α ⟨c,rfl⟩;refine vf 3 rfl (yV (zg 3 rfl ?_));simpa using q
theorem zo2 (F:FnD K mg "turns" sTn ["rules","many"])(nb:NbT mg)(c:mg "set"=none)(gl:∃t,mg "LAST_DAY"=some (.int 1000000 t))(N:Cal P w K mg base "turns_by" 1 zv8):Cal P w K mg base "turns" 2 zA0:=by
 refine zX ["rules","many","found","rule"] F λ_ _ _ _ _ _ _ _ Q nd hr h=>?_;obtain⟨ds,n,rfl,J,ld,n1,n2,q⟩:=h;refine yz 2 nd ?_;and_intros;refine yh (.one 3) (zZ (zg 0 rfl ⟨_,rfl,?_⟩));refine zH (λi α=>∃(fs:List Int) (m:Option A),0∈fs/\(∀u a b v,.tuple [.str u,.int a,.int b,v]∈ds.take i->∀y∈tbL u a b n,y∈fs)/\fs.length<=1+28*i/\α=[some (.dat (.list ds)),some (.dat (.int n)),some (.own (fs.map .int)),m]) ⟨[0],none,by simp,λu a b v h=>by simp at h,by simp,rfl⟩ ?_ ?_
 ·rintro i d α hd ⟨fs,m,o,hf,lf,rfl⟩;have hi:=(zI8.mp hd).1;obtain⟨u,a,b,v,L,rfl,z,I,E,hw⟩:=zL (J d (zL8 hd));have O:=zo0 u a b n2;refine⟨_,rfl,uu 2 rfl ?_⟩;and_intros;refine⟨u,a,b,v,n,rfl,z,I,E,n2,_,rfl,by rw[zI5,zI5];lia,zt ⟨fs++tbL u a b n,_,zL1 _ o,λH G s B h y hy=>?_,by rw[zL4];lia,by rw[zV4]<;>rfl⟩⟩;rw[take_snoc hd]at h;rcases zK6.mp h with h|h
  ·exact zL1 _ (hf H G s B h y hy)
  ·have h:=zK3.mp h;injection h with h;injection h with f h;injection h with g h;injection h with l h;injection f with f;injection g with g;injection l with l;subst f g l;exact zK4 _ hy
 ·rintro α ⟨fs,m,o,hf,lf,rfl⟩;rw[zO4]at hf;refine vf 2 rfl (yV (EvL.d (me ["day","many"] [none,some 1] (.one 0) (zZ (EvL.d (uS rfl (by rfl) nb.sorted (by rfl) c (zg 2 rfl ⟨fs,rfl,by lia,λys C up M=>⟨_,rfl,by rw[zI5];lia,?_⟩⟩)))))));refine pX (λd:Int=>decide (0<=d)&&decide (d<=1000000-(n:Int))) .int (λd hd=>⟨_,rfl,λ_ _ _ _ _ k=>qt ?_,λ_ _ _ _ _ _ k=>?_⟩) ?_
  ·and_intros;refine fN (λh=>?_) λh=>?_
   ·refine nF (yC (by rfl) gl ?_);and_intros;rw[h]at k;exact k
   ·rw[h]at k;exact k
  ·and_intros;exact k
  rw[zV1];have j:∀{y:Int},y∈fs->0<=y->y+n<=1000000->y∈ys.filter λd:Int=>decide (0<=d)&&decide (d<=1000000-(n:Int)):=λ{y} f g l=>zX0.mpr ⟨(C y).mpr f,by simp;lia⟩;have mb:∀y∈ys.filter λd:Int=>decide (0<=d)&&decide (d<=1000000-(n:Int)),0<=y/\y+n<=1000000:=λy hy=>by
   have:=(zX0.mp hy).2;simp at this
   lia
  refine q _ ⟨j o (zS9 _) (by lia),λy hy=>(mb y hy).1,λy hy=>(mb y hy).2,λx a b v hm d p r=>?_⟩ ((up.imp λh=>zW2 h).filter _) (by have:=z25 (λd:Int=>decide (0<=d)&&decide (d<=1000000-(n:Int))) ys;lia);have hf:=hf x a b v hm;unfold tbL at hf;refine⟨λe h=>?_,λe1 D h=>?_,λe i hi h=>?_⟩
  ·rw[if_pos e]at hf;exact j (hf d (by simp;lia)) p r
  ·rw[if_neg e1,if_neg D]at hf;exact j (hf d (by simp;lia)) p r
  ·subst e;rw[if_neg (by decide),if_pos rfl]at hf;refine j (hf d (zK6.mpr ?_)) p r;rw[zY,zY]
   lia
theorem aG {C:Addr}(F:FnD K mg "apart" zC0 ["one","other"])(nb:NbT mg)(v:∃t,mg "MOST_NIGHTS"=some (.int 14 t))(ga:∃t,mg "MOST_RULES_APART"=some (.int 12 t))(B:yQ P w K mg base C "rules" 3 (wM C cs))(u:Cal P w K mg base "turns" 2 zA0)(D:Cal P w K mg base "cost_or_none" 6 (zh9 C cs)):Cal P w K mg base "apart" 7 (gC C cs):=by
 refine zX ["one","other","rules","others","many","come","stay","coins","others_coins"] F λ_ _ E _ _ _ _ _ Q nd hr h=>?_;obtain⟨ds,es,rfl,p,re,ld,le,q⟩:=h;and_intros;refine⟨p.rules,by lia,?_⟩;and_intros;refine⟨re.rules,by lia,?_⟩;and_intros;refine yC (by rfl) ga ?_;and_intros;refine xu (zL2 (by split<;>lia)) (zt ?_);refine yh (.one 4) (ju (by rfl) nb.range (yg (pf (yC (by rfl) v ?_))));and_intros;refine⟨⟨by decide,by decide,by decide,by decide⟩,?_⟩;refine zH (λi α=>∃r g c f k:Option A,(∀m:Nat,1<=m->m<1+i->oY ds es m)/\α=[some (.dat (zC C cs ds)),some (.dat (zC C cs es)),some (.dat (.list ds)),some (.dat (.list es)),r,g,c,f,k]) ⟨none,none,none,none,none,λm a b=>by lia,rfl⟩ ?_ ?_
 ·rintro i d α hd ⟨r,g,c,f,k,o,rfl⟩;rw[zK0,zL5]at hd;obtain⟨z,hz,rfl⟩:=hd;have hi:=(zI8.mp hz).1;rw[zc]at hi;have hi:i<14:=hi;obtain rfl:z=((1+i:Nat):Int):=by rw[yF (by exact hi)]at hz;cases hz;lia
  have n1:1<=1+i:=by lia
  have n2:1+i<=14:=by lia
  generalize hn:1+i=n at o n1 n2;refine⟨_,rfl,yh (.one 5) (zZ (mQ u (hr.mono (by decide)) (by rfl) (zm (EvL.d (vp (zg 2 rfl (zg 3 rfl ⟨_,_,rfl,rfl,by lia,zm (zg 4 rfl (zx ⟨ds++es,n,rfl,λd hd=>(zK6.mp hd).elim (p.all d) (re.all d),by simp;lia,n1,n2,λys T up x=>⟨_,rfl,?_⟩⟩))⟩)))))))⟩;refine zH (λj α=>∃g c f k:Option A,(∀z∈ys.take j,coO ds z (z+n)=coO es z (z+n))/\α=[some (.dat (zC C cs ds)),some (.dat (zC C cs es)),some (.dat (.list ds)),some (.dat (.list es)),some (.dat (.int n)),g,c,f,k]) ⟨g,c,f,k,λz h=>by simp at h,rfl⟩ ?_ ?_
  ·rintro j d α hd ⟨g,c,f,k,l,rfl⟩;rw[zK0,zL5]at hd;obtain⟨y,hy,rfl⟩:=hd;have s:=zL8 hy;have sb:wZ y (y+n):=⟨T.lo y s,by lia,by lia,T.hi y s⟩;refine⟨_,rfl,?_⟩;and_intros;refine⟨ds,y,y+n,rfl,p,sb,?_⟩;and_intros;refine⟨es,y,y+n,rfl,re,sb,?_⟩;and_intros;refine eqk (wN _).1 (wN _).1 (wN _).2 (wN _).2 ?_;rw[show PyData.eqv (A.dat (oD (coO ds y (y+n)))).d (A.dat (oD (coO es y (y+n)))).d=decide (coO ds y (y+n)=coO es y (y+n))from zp1 _ _];refine xi (λh=>?_) λh=>?_
   ·and_intros;exact q (some (n,y)) (T.fst p.all re.all up n1 n2 o hy l (by simpa using h))
   ·and_intros;refine⟨_,_,_,_,λz hz=>?_,rfl⟩;rw[take_snoc hy]at hz;rcases zK6.mp hz with hz|hz
    ·exact l z hz
    ·rw[zK3.mp hz];simpa using h
  ·rintro α ⟨g,c,f,k,l,rfl⟩;rw[zI5,zO4]at l;and_intros;refine⟨_,_,_,_,_,λm m1 m2=>?_,rfl⟩;by_cases e:m<n
   ·exact o m m1 e
   ·obtain rfl:m=n:=by lia
    exact T.all p.all re.all l
 ·rintro α ⟨r,g,c,f,k,o,rfl⟩;and_intros;exact q none λm m1 m2=>o m m1 (by rw[zI5,zc];show m<1+14;lia)
end
abbrev zf6 :Stmt:=top 41
def gp (C:Addr)(cs:Cs):Ph:=λas Q=>∃ds es,as=[.dat (zC C cs ds),.dat (zC C cs es)]/\zq ds/\zq es/\ds.length+es.length<=24/\Q (.dat (zC C cs (ds++es)))
section
variable {P:Program}{w:World}{K:PySem.W.Frag}{mg:Str->Option Value}{base:Heap}{cs:Cs}
theorem cU {C:Addr}(F:FnD K mg "laid" zf6 ["elder","newer"])(d:vk P w K mg base "Book" 9 [] (uk C cs))(c:yQ P w K mg base C "rules" 3 (wM C cs)):Cal P w K mg base "laid" 11 (gp C cs):=by
 refine zX ["elder","newer"] F λ_ _ _ _ _ _ _ _ Q nd hr h=>?_;obtain⟨ds,es,rfl,a,re,b,q⟩:=h;and_intros;refine⟨a.rules,by lia,?_⟩;and_intros;refine⟨re.rules,by lia,ds,es,rfl,rfl,by lia,?_⟩;and_intros;exact⟨ds++es,.inl rfl,(a.app re).rules,by rw[zL4];exact b,q⟩
end
theorem rH {x:Str}{day:Int}{d:PyData}(hd:zN d=true)(h:yu x day d=true):∃(a b:Int) (v:PyData),d=.tuple [.str x,.int a,.int b,v]/\0<=a/\a<=day/\day<=b/\b<=1000000/\zK (.str x) v=true:=by
 obtain⟨u,a,b,v,i,rfl,f,j,g,hw⟩:=zL hd;have h':(decide (u=x)&&(decide (a<=day)&&decide (day<=b)))=true:=h;simp only[zN3,zS3]at h';obtain⟨rfl,c,e⟩:=h';exact⟨a,b,v,rfl,f,c,e,g,hw⟩
def NB (u:PyData):Prop:=u=.none\/(∃i,u=.int i)\/∃i j,u=.tuple [.int i,.int j]
theorem oh {u v:PyData}(a:NB u)(b:NB v)(h:PyData.eqv u v=true):u=v:=by
 rcases a with rfl|⟨i,rfl⟩|⟨i,j,rfl⟩<;>rcases b with rfl|⟨k,rfl⟩|⟨k,l,rfl⟩<;>simp[PyData.eqv,PyData.eqvAll]at h ⊢
 ·exact h
 ·exact h
theorem yv {lo hi:Int}{u:PyData}(h:yy lo hi u=true):NB u:=by
 obtain⟨i,rfl,_⟩:=zy h;exact .inr (.inl ⟨i,rfl⟩)
theorem kd {u:PyData}(h:uK u=true):NB u:=by
 obtain⟨i,j,rfl,_⟩:=wG h;exact .inr (.inr ⟨i,j,rfl⟩)
theorem eR {x:Str}(j:x∈words){u v:PyData}(d:zK (.str x) u=true)(e:zK (.str x) v=true)(h:PyData.eqv u v=true):u=v:=by
 simp only[words,zJ1,zK5,zN1]at j;have k:isBool u=true->isBool v=true->u=v:=λg i=>by
  obtain⟨b,rfl⟩:=bool_inv g;obtain⟨c,rfl⟩:=bool_inv i;have h':(b == c)=true:=by simpa[PyData.eqv]using h
  rw[eq_of_beq h']
 have f:∀{a:Bool} {w:PyData},(isNone w||a)=true->(a=true->NB w)->NB w:=λ{a w} g i=>(none_or g).elim .inl i;rcases j with rfl|rfl|rfl|rfl|rfl|rfl|rfl
 ·rw[uQ]at d e;exact oh (f d yv) (f e yv) h
 ·rw[sZ]at d e;exact k d e
 ·rw[nj]at d e;exact k d e
 ·rw[uL]at d e;exact oh (yv d) (yv e) h
 ·rw[su]at d e;exact oh (yv d) (yv e) h
 ·rw[tO]at d e;exact oh (f d kd) (f e kd) h
 ·rw[rL]at d e;exact oh (yv d) (yv e) h
def Alike (ds es:List PyData):Prop:=∀x∈words,∀day:Int,0<=day->day<=1000000->zb ds x day=zb es x day
theorem qq {ds:List PyData}(c:∀d∈ds,zN d=true){x:Str}{day:Int}(h:1000000<day):zb ds x day=oj x:=by
 unfold zb;have:ds.reverse.find? (yu x day)=none:=by
  rw[z02];intro r hr e;obtain⟨a,b,v,_,_,_,f,g,_⟩:=rH (c r (zT2.mp hr)) e
  lia
 rw[this]
structure Edg (ds:List PyData)(x:Str)(ys:List Int):Prop where
 zero:0∈ys
 pos:∀y∈ys,0<=y
 at':∀a b v,.tuple [.str x,.int a,.int b,v]∈ds->a∈ys/\(b+1<=1000000->b+1∈ys)
theorem Edg.alike {ds es:List PyData}{x:Str}{ys:List Int}(j:∀d∈ds,zN d=true)(re:∀d∈es,zN d=true)(E:Edg (ds++es) x ys)(h:∀y∈ys,y<=1000000->zb ds x y=zb es x y){day:Int}(i:0<=day)(o:day<=1000000):zb ds x day=zb es x day:=by
 obtain⟨e,he,n,hm⟩:=qC ys ⟨0,E.zero,i⟩;have key:∀r∈ds++es,zN r=true->yu x day r=yu x e r:=λr hr f=>by
  obtain⟨u,a,b,v,k,rfl,p,m,l,hw⟩:=zL f;show(decide (u=x)&&(decide (a<=day)&&decide (day<=b)))=(decide (u=x)&&(decide (a<=e)&&decide (e<=b)));by_cases c:u=x
  ·subst c;obtain⟨ha,hb⟩:=E.at' a b v hr;have e1:decide (a<=day)=decide (a<=e):=by
    by_cases z:a<=day
    ·rw[zM1 z,zM1 (hm a ha z)]
    ·rw[zL2 z,zL2 (by lia)]
   have g:decide (day<=b)=decide (e<=b):=by
    by_cases z:day<=b
    ·rw[zM1 z,zM1 (by lia)]
    ·rw[zL2 z,zL2];intro w;have:=hm (b+1) (hb (by lia)) (by lia)
     lia
   rw[e1,g]
  ·rw[zL2 c,zW1,zW1]
 rw[xm λr hr=>key r (zL1 _ hr) (j r hr),xm λr hr=>key r (zK4 _ hr) (re r hr)];exact h e he (by lia)
open Classical in
noncomputable def xg (ds:List PyData):List PyData->List PyData->List PyData
 |l,[]=>l
 |l,r::rs=>if Alike ds (l++rs)then xg ds l rs else xg ds (l++[r]) rs
noncomputable def xX (ds:List PyData):List PyData:=xg ds [] ds
theorem vP (ds:List PyData):∀rs l,∃ks,xg ds l rs=l++ks/\ks.Sublist rs
 |[],l=>⟨[],by simp[xg],.slnil⟩
 |r::rs,l=>by
  unfold xg;split
  ·obtain⟨ks,e,s⟩:=vP ds rs l;exact⟨ks,e,s.cons _⟩
  ·obtain⟨ks,e,s⟩:=vP ds rs (l++[r]);exact⟨r::ks,by rw[e,zK8];rfl,s.cons_cons _⟩
theorem oA (ds:List PyData):(xX ds).Sublist ds:=by
 obtain⟨ks,e,s⟩:=vP ds ds [];unfold xX;rw[e,zV1];exact s
theorem vA {ds:List PyData}:∀rs l,Alike ds (l++rs)->Alike ds (xg ds l rs)
 |[],l,h=>by simpa[xg]using h
 |r::rs,l,h=>by
  unfold xg;split
  ·rename_i z;exact vA rs l z
  ·exact vA rs (l++[r]) (by rw[zK8];exact h)
theorem nI (ds:List PyData):Alike ds (xX ds):=vA ds [] λx _ day _ _=>rfl
theorem uD (l:List PyData)(r:PyData)(rs:List PyData)(x:Str)(day:Int):zb (l++r::rs) x day=match rs.reverse.find? (yu x day)with|some d=>vH d|none=>if yu x day r=true then vH r else zb l x day:=by
 unfold zb;rw[zU5,List.reverse_cons,zK8,List.find?_append,List.find?_append];cases h1:rs.reverse.find? (yu x day)with
 |some d=>simp
 |none=>
  cases h2:yu x day r with
  |true=>simp[zO8,h2]
  |false=>simp[zO8,h2]
theorem xI (l rs:List PyData)(x:Str)(day:Int):zb (l++rs) x day=match rs.reverse.find? (yu x day)with|some d=>vH d|none=>zb l x day:=by
 unfold zb;rw[zU5,List.find?_append];cases h1:rs.reverse.find? (yu x day)with
 |some d=>simp
 |none=>simp
theorem iU {ds l rs ks:List PyData}{r:PyData}(inv:Alike ds (l++r::rs))(no:¬Alike ds (l++rs))(s:ks.Sublist rs):¬Alike (l++r::ks) (l++ks):=λh=>no λx b day c e=>by
 have f:=inv x b day c e;have a:=h x b day c e;rw[f];rw[uD,xI];rw[uD,xI]at a;cases z:rs.reverse.find? (yu x day)with
 |some d=>rfl
 |none=>
  have g:ks.reverse.find? (yu x day)=none:=by
   rw[z02]at z ⊢;intro d hd;exact z d (zT2.mpr (s.subset (zT2.mp hd)))
  rw[g]at a;exact a
theorem uv {ds:List PyData}:∀rs l,Alike ds (l++rs)->∀a r b,xg ds l rs=l++a++r::b->¬Alike (l++a++r::b) (l++a++b)
 |[],l,inv,a,r,b,e=>by
  have:=congrArg List.length e;simp[xg]at this
 |q::rs,l,inv,a,r,b,e=>by
  unfold xg at e;split at e
  ·rename_i z;exact uv rs l z a r b e
  ·rename_i z;have d:Alike ds ((l++[q])++rs):=by rw[zK8];exact inv
   obtain⟨ks,f,g⟩:=vP ds rs (l++[q]);cases a with
   |nil=>
    rw[f,zK8,zO1]at e;have i:q::ks=r::b:=List.append_cancel_left e;cases i;rw[zO1];exact iU inv z g
   |cons c a=>
    have j:xg ds (l++[q]) rs=l++(q::ks):=by rw[f,zK8];rfl
    have h:l++(q::ks)=l++((c::a)++r::b):=by rw[<-j,e,zK8]
    have k:q::ks=(c::a)++r::b:=List.append_cancel_left h;cases k;have:=uv rs (l++[q]) d a r b (by rw[e];simp);simpa using this
theorem jR (ds:List PyData){a b:List PyData}{r:PyData}(e:xX ds=a++r::b):¬Alike (xX ds) (a++b):=by
 have:=uv ds [] (λx _ day _ _=>rfl) a r b (by simpa[xX]using e);rw[e];simpa using this
theorem Alike.symm {ds es:List PyData}(h:Alike ds es):Alike es ds:=λx a day b c=>(h x a day b c).symm
theorem jV {ds es:List PyData}(h:Alike ds es)(os:List PyData):Alike (ds++os) (es++os):=λx a day b c=>by
 rw[xI,xI];cases os.reverse.find? (yu x day)with
 |some d=>rfl
 |none=>exact h x a day b c
theorem sQ {ds es:List PyData}(h:Alike ds es){c g:Int}(sb:wZ c g):yZ ds c g=yZ es c g:=by
 obtain⟨b,f,g1,g2⟩:=sb;have e:∀x∈words,zb ds x c=zb es x c:=λx a=>h x a c b (by lia);have d:yr ds c (g-c).toNat=yr es c (g-c).toNat:=by
  unfold yr;refine congrArg _ (List.filter_congr λz hz=>?_);have hz:=zY.mp hz;rw[h "price" (by simp[words]) z (by lia) (by lia)]
 unfold yZ;rw[d,e "come" (by simp[words]),h "go" (by simp[words]) g (by lia) g2,e "least" (by simp[words]),e "most" (by simp[words])]
theorem oO {ds es:List PyData}(h:Alike ds es){c g:Int}(sb:wZ c g):coO ds c g=coO es c g:=by
 have hb:=sQ h sb;obtain⟨a,d,g1,g2⟩:=sb;have b:prs ds c g=prs es c g:=by
  unfold prs;refine List.map_congr_left λz hz=>?_;have hz:=zY.mp hz;rw[h "price" (by simp[words]) z (by lia) (by lia)]
 unfold coO coD zc0 wb vB;rw[hb,b,h "deal" (by simp[words]) c a (by lia),h "fee" (by simp[words]) c a (by lia)]
theorem rS {ds es:List PyData}(h:Alike ds es){q:Option (Nat×Int)}(a:Apt ds es q):zC5 ds es q=.none:=by
 rw[bt a (show Apt ds es none from λm m1 m2 c b d=>oO h ⟨b,by lia,by lia,d⟩)];rfl
def Vis (r:PyData)(es:List PyData):Prop:=∃(x:Str) (day:Int),yu x day r=true/\∀e∈es,yu x day e=false
theorem gL {ds a b:List PyData}{r:PyData}(e:xX ds=a++r::b):Vis r b:=zZ5 λno=>jR ds e (by
 rw[e];intro x g day f h;rw[uD,xI];cases z:b.reverse.find? (yu x day)with
 |some d=>rfl
 |none=>
  dsimp only;rw[if_neg λc=>no ⟨x,day,c,λe he=>by simpa using z02.mp z e (zT2.mpr he)⟩])
end K74
namespace L2
open PySem PySem.Spec PyProof PyProof.Rows
section
variable {prog:Program}{w:World}{A:Around}{E:Value->Shared->Prop}{s:Shared}
theorem zB6 {a:Addr}{v:Value}{n:Nat}{l:PySem.Fin->Shared->Prop}(j:s.heap.get? a=some (seqObj "list" #[v] n))
  (h:∀h' c,(∀b o,b≠a->s.heap.get? b=some o->h'.get? b=some o)->h'.get? a=some (seqObj "list" #[v] c)->l (.done (.ret .none)) {s with heap:=h'}):
  wpAny (model prog w) A (Builtin.«list.sort» ⟨[.ref a],[]⟩) l E s:=by
 have s1:=zQ9 s.heap a (Obj.mapSeq λ_=>(#[]:Array Value));obtain⟨e1,i⟩:∃e1,(s.heap.update a (Obj.mapSeq λ_=>(#[]:Array Value))).get? a=some (seqObj "list" #[] e1):=⟨_,zR1 j λ_=>#[]⟩;rw[list_sort_plain];refine zI3 (listItems_at j rfl ?_);have g:1<=sizeLine:=by decide
 refine zI3 (zV5 j rfl ?_ (by first|exact g|exact Nat.le_succ_of_le g) (zJ8 _));refine zI3 (seqEpoch_at i rfl ?_);refine zI3 (zX8 ?_ g);refine zI3 (zY8 ?_ (zJ8 _));refine zN7 ?_;dsimp only;have k:#[v].size<2:=by show 1<2;decide
 rw[if_pos k,if_pos k];refine zI3 (zI6 (zI3 (zI6 ?_)));have d:=zI4 (seqObj "list" #[] 0) (zI4 (seqObj "tuple" #[v] 0) i);have s2:=zQ9 (((s.heap.update a (Obj.mapSeq λ_=>(#[]:Array Value))).push (seqObj "tuple" #[v] 0)).push (seqObj "list" #[] 0)) a (Obj.mapSeq λ_=>#[v]);have f:(arrOf (SortSt.mk' general' (#[v].zip #[v]) #[] 7 none)).map (·.2)=#[v]:=by
  show(#[v].zip #[v]).map (·.2)=#[v];apply Array.toList_inj.mp;rw[Array.toList_map,Array.toList_zip];rfl
 rw[f];refine zI3 (seqEpoch_at d rfl (zI3 (zV5 d rfl ?_ (zJ8 _) (by first|exact g|exact Nat.le_succ_of_le g))));rw[show failedOf (SortSt.mk' general' (#[v].zip #[v]) #[] 7 none)=none from rfl];simp only[bne_self_eq_false,zR5,zY2];exact zI6 (h _ _ (λb o hb e=>(s2.2 b hb).trans (zI4 _ (zI4 _ ((s1.2 b hb).trans e)))) (zR1 d λ_=>#[v]))
theorem bf {l:Addr}{v:Value}{Q:Value->Shared->Prop}(g:s.heap.IsList l #[v])
  (h:∀D h' c,s.heap.objs.size<=D->(∀b o,s.heap.get? b=some o->h'.get? b=some o)->h'.get? D=some (seqObj "list" #[v] c)->Q (.ref D) {s with heap:=h'}):
  wpAny (model prog w) A (call (.builtin "sorted") [.ref l]) Q E s:=by
 refine Calls.call_function_entry kind_sorted plain_sorted entry_sorted (args_sorted1 _) ?_;unfold Builtin.«sorted»;refine zI3 (m:=checkCount "sorted" 1 1 _) (zI6 (zI3 (collect_list g ?_ (show 1<=sizeLine by decide))));have d:((s.heap.push (seqObj "list" #[] 0)).update s.heap.objs.size (Obj.mapSeq (·++#[v]))).objs.size=s.heap.objs.size+1:=by rw[zY4,size_push']
 have f:(((s.heap.push (seqObj "list" #[] 0)).update s.heap.objs.size (Obj.mapSeq (·++#[v]))).push (seqObj "list" #[v] 0)).get? (s.heap.objs.size+1)=some (seqObj "list" #[v] 0):=by rw[<-d];exact zJ4 _ rfl
 have keep:∀b o,s.heap.get? b=some o->(((s.heap.push (seqObj "list" #[] 0)).update s.heap.objs.size (Obj.mapSeq (·++#[v]))).push (seqObj "list" #[v] 0)).get? b=some o:=λb o q=>by
  have a:b<s.heap.objs.size:=zJ5 q;rw[zV6 _ _ _ (by rw[d];exact zK2 (zP4 a)),Heap.get?_update_ne _ _ _ _ (zK2 a),zV6 _ _ _ (zK2 a)];exact q
 refine zI3 (zY8 ?_ (show 1<=sizeLine by decide));show wpAny _ _ _ _ _ {s with heap:=((s.heap.push (seqObj "list" #[] 0)).update s.heap.objs.size (Obj.mapSeq (·++#[v]))).push (seqObj "list" #[v] 0)};rw[d];refine zI3 (zN7 (zP0 slot_list_sort ⟨_,f,rfl⟩ entry_list_sort (zB6 f λh' c k e=>⟨_,rfl,?_⟩) (args_list_sort _)));exact zI6 ⟨_,rfl,h _ h' c (zT5 _) (λb o q=>k b o (zK2 (zP4 (zJ5 q))) (keep b o q)) e⟩
end
section
variable {X:Cx}{α:Ev}{a b e:Expr}{pos p:Pos}
theorem qY :xx X (.builtin "sorted") (λxs H Q=>∃(l:Addr) (x:V),xs=[.ref l]/\H l=some (.lst [x])/\∀d:Addr,H d=none->Q (.ref d) (upd H d (.lst [x]))):=by
 intro pins s σ H xs us Q I r h;obtain⟨l,x,rfl,j,q⟩:=h;obtain⟨u,rfl,g⟩:=vals1 r;cases g;obtain⟨its,f,pl,hz⟩:=I.list (SqL.of j);obtain⟨v,rfl,g⟩:=vals1 f;exact bf pl.isList λD h' c i k m=>⟨.ref D,_,I.laid (o:=.lst [x]) (t':=s.toks) k i ⟨show 1<=sizeLine by decide,[v],c,f,m⟩,rfl,q D (I.hok.fresh i)⟩
theorem nW {Q:List PyData->Prop}(hg:Gl X "sorted")(hm:X.mg "sorted"=none)(h:EvD X α e λx=>∃d,x=.list [d]/\Q [d])(he:starEach [e] X.env=(false,eval e X.env)::starEach [] X.env:=by rfl):
  EvL X α (.Call (.Name "sorted" p) [e] [] pos) Q:=λF σ H R m k=>by
 refine⟨_,vW qY hg hm boot_sorted (zE zi yp he) (he:=he),?_⟩;refine h F σ H _ m λx o H1 n t1 f g=>?_;obtain⟨d,rfl,q⟩:=n;have m1:=m.kz f t1;obtain⟨l,xs,rfl,i,j⟩:=g.lst_inv;cases j with
 |cons a1 g=>
  cases g;refine⟨l,_,rfl,(zj i).2,λr c=>?_⟩;obtain⟨g1,g2,g3⟩:=m1.lay c (.cons a1 .nil);exact k _ _ _ q g1 (f.trans g2) (g3.back m f t1)
theorem iX {Q:PyData->Prop}(c:X.A.units+64<cLine)(h:EvD X α a λx=>EvD X α b λy=>∃ds,y=.list ds/\x.canLay0=true/\PyData.canLayAll0 ds=true/\x.hasDict=false/\PyData.hasDictAll ds=false/\x.depth<=60/\Q (.bool (!ds.any λy=>PyData.eqv y x)))(hm:behindInMarks .NotIn b=false:=by rfl):EvD X α (.Compare a [.NotIn] [b] pos) Q:=
 fg (jE c) hm (h.imp λx h=>h.imp λy z=>by obtain⟨ds,e,s1,s2,g,i,dp,hq⟩:=z;exact⟨_,λp H j k R f d z=>⟨x,ds,(f.dv g).same xo,by subst e;exact(d.dv (by simpa only[PyData.hasDict]using i)).same xo,s1,s2,dp,z⟩,hq⟩)
end
end L2
namespace K74
open PySem PySem.Spec PyProof.Rows L2
abbrev dq :Stmt:=top 45
abbrev zB5 :Stmt:=top 46
abbrev ze1 :Stmt:=top 47
def kE :Ph:=λas Q=>∃ds x,as=[.dat (.list ds),.dat (.str x)]/\(∀d∈ds,zN d=true)/\ds.length<=31/\∀ys:List Int,Edg ds x ys->ys.length<=63->Q (.own (ys.map .int))
def lu (C:Addr)(cs:Cs):Ph:=λas Q=>∃ds es,as=[.dat (zC C cs ds),.dat (zC C cs es)]/\zq ds/\zq es/\ds.length+es.length<=31/\(Alike ds es->Q (.dat .none))/\(¬Alike ds es->∀x day,Q (.dat (.tuple [.str x,.int day])))
def dJ (C:Addr)(cs:Cs):Ph:=λas Q=>∃ds,as=[.dat (zC C cs ds)]/\zq ds/\ds.length<=15/\Q (.dat (zC C cs (xX ds)))
section
variable {P:Program}{w:World}{K:PySem.W.Frag}{mg:Str->Option Value}{base:Heap}{cs:Cs}
theorem hG (F:FnD K mg "edges" dq ["rules","word"])(nb:NbT mg)(B:mg "set"=none):Cal P w K mg base "edges" 1 kE:=by
 refine zX ["rules","word","found","rule"] F λ_ _ I _ _ _ _ _ Q nd hr h=>?_;obtain⟨ds,x,rfl,C,H,q⟩:=h;refine yz 2 nd (yL ?_);and_intros;refine yh (.one 3) (zZ (zg 0 rfl ⟨_,rfl,?_⟩));refine zH (λi α=>∃(ns:List Int) (n:Option A),α=[some (.dat (.list ds)),some (.dat (.str x)),some (.own (ns.map .int)),n]/\ns.length<=1+2*i/\0∈ns/\(∀y∈ns,0<=y)/\∀j<i,∀a b v,ds[j]?=some (.tuple [.str x,.int a,.int b,v])->a∈ns/\b+1∈ns) ⟨[0],none,rfl,zJ0 _,by simp,by simp,λj c=>absurd c (zZ6 _)⟩ ?_ ?_
 ·rintro i d α hd ⟨ns,n,rfl,ln,f,k,g⟩;have hi:=(zI8.mp hd).1;obtain⟨u,a,b,v,D,rfl,L,J,G,hw⟩:=zL (C d (zL8 hd));refine⟨_,rfl,?_⟩;and_intros;refine xi (λr=>?_) (λr=>?_)
  ·have p:u=x:=zX6 r;subst p;refine uu 2 rfl (EvL.d (yL ?_));and_intros;refine⟨by rw[zI5];show ns.length+2<=1000;lia,zt (zt ⟨ns++[a,b+1],_,by rw[zV4];rfl,by rw[zL4];show ns.length+2<=_;lia,zL1 _ f,λy hy=>?_,λj c s l m e=>?_⟩)⟩
   ·rcases zK6.mp hy with hy|hy
    ·exact k y hy
    ·simp only[zJ1,zK5,zN1]at hy
     lia
   ·rcases zN2 j i with z|z
    ·obtain⟨t,o⟩:=g j z s l m e;exact⟨zL1 _ t,zL1 _ o⟩
    ·have:j=i:=by lia
     subst this;rw[hd]at e;cases e;exact⟨by simp,by simp⟩
  ·refine zt (zt ⟨ns,_,rfl,by lia,f,k,λj c s l m e=>?_⟩);rcases zN2 j i with z|z
   ·exact g j z s l m e
   ·have:j=i:=by lia
    subst this;rw[hd]at e;cases e;exact absurd rfl (z03 r)
 ·rintro α ⟨ns,n,rfl,ln,f,k,g⟩;refine vf 2 rfl ?_;refine xS (uS rfl (by rfl) nb.sorted (by rfl) B (zg 2 rfl ⟨ns,rfl,by lia,λys hy pw E=>?_⟩));refine q ys ⟨(hy 0).mpr f,λy h=>k y ((hy y).mp h),λa b v h=>?_⟩ (by lia);obtain⟨j,c⟩:=List.getElem?_of_mem h;obtain⟨t,o⟩:=g j (zI8.mp c).1 a b v c;exact⟨(hy a).mpr t,λ_=>(hy _).mpr o⟩
theorem tT {ds:List PyData}(a:zq ds)(x:Str)(day:Int):zQ 5000 (zb ds x day):=by
 unfold zb;split
 ·rename_i d e;exact(a d (zT2.mp (List.mem_of_find?_eq_some e))).wn
 ·exact fP x
theorem cT {ds es:List PyData}(b:zq ds)(re:zq es){x:Str}(a:x∈words)(day:Int){Q:Bool->Prop}(c:zb ds x day=zb es x day->Q true)(d:zb ds x day≠zb es x day->Q false):pA (zb ds x day) (zb es x day) Q:=by
 have n1:=tT b x day;have n2:=tT re x day;refine eqk n1.shaped n2.shaped n1.nod n2.nod ?_;cases z:PyData.eqv (zb ds x day) (zb es x day)with
 |true=>exact c (eR a (zW b.all a day) (zW re.all a day) z)
 |false=>exact d λe=>by rw[e,SeqAt.eqv_refl _ n2.lay]at z;cases z
theorem dg :(tbU.map λp=>PyData.str p.1)=words.map .str:=rfl
theorem aN {C o:Addr}{n:Nat}(F:FnD K mg "unlike" zB5 ["one","other"])(E:mg "USUAL"=some (.ref o))(u:sT K w o tbU n)(s:(o == sysModules)=false)(CE:Cal P w K mg base "edges" 1 kE)(H:yQ P w K mg base C "rules" 3 (wM C cs))(J:yQ P w K mg base C "tells_of" 2 (vC C cs)):Cal P w K mg base "unlike" 4 (lu C cs):=by
 refine zX ["one","other","rules","word","day"] F λ_ _ I _ _ _ _ _ Q nd hr h=>?_;obtain⟨ds,es,rfl,g,re,B,t,v⟩:=h;and_intros;refine⟨g.rules,by lia,?_⟩;and_intros;refine⟨re.rules,by lia,?_⟩;refine⟨ds,es,rfl,rfl,by lia,?_⟩;refine yh (.one 3) (dP (by rfl) E u s ?_);rw[dg];refine zH (λi α=>∃m c:Option A,α=[some (.dat (zC C cs ds)),some (.dat (zC C cs es)),some (.dat (.list (ds++es))),m,c]/\∀x∈words.take i,∀day:Int,0<=day->day<=1000000->zb ds x day=zb es x day) ⟨none,none,rfl,λx k=>by simp at k⟩ ?_ ?_
 ·rintro i d α hd ⟨m,c,rfl,al⟩;rw[zK0,zL5]at hd;obtain⟨x,k,rfl⟩:=hd;have b:x∈words:=zL8 k;refine⟨_,rfl,?_⟩;refine yh (.one 4) (zZ (EvL.d (xA CE (hr.mono (by decide)) (by rfl) (zm (zg 2 rfl (zm (zg 3 rfl (zx ⟨ds++es,x,rfl,λd hd=>(zK6.mp hd).elim (g.all d) (re.all d),by rw[zL4];exact B,λys q G=>⟨_,rfl,⟨_,rfl,?_⟩⟩⟩))))))));refine zH (λj α=>∃c:Option A,α=[some (.dat (zC C cs ds)),some (.dat (zC C cs es)),some (.dat (.list (ds++es))),some (.dat (.str x)),c]/\∀y∈ys.take j,zb ds x y=zb es x y) ⟨_,rfl,λy hy=>by simp at hy⟩ ?_ ?_
  ·rintro j d α hd ⟨c,rfl,l⟩;rw[zK0,zL5]at hd;obtain⟨y,hy,rfl⟩:=hd;refine⟨_,rfl,?_⟩;and_intros;refine⟨ds,x,y,rfl,g.rules,b,?_⟩;and_intros;refine⟨es,x,y,rfl,re.rules,b,?_⟩;refine cT g re b y (λe=>?_) (λne=>?_)
   ·refine xu rfl (zt (zt ⟨_,rfl,λz hz=>?_⟩));rw[zQ8,hy]at hz;rcases zK6.mp hz with hz|hz
    ·exact l z hz
    ·have f:z∈[y]:=by simpa using hz
     rw[zK3.mp f];exact e
   ·refine qI rfl ?_;and_intros;refine v (λa=>ne ?_) x y;have D:=q.pos y (zL8 hy);rcases Int.lt_or_le 1000000 y with z|z
    ·rw[qq g.all z,qq re.all z]
    ·exact a x b y D z
  ·rintro α ⟨c,rfl,l⟩;rw[zI5,zO4]at l;refine zt ⟨_,_,rfl,λz hz day p r=>?_⟩;rw[zQ8,k]at hz;rcases zK6.mp hz with hz|hz
   ·exact al z hz day p r
   ·have f:z∈[x]:=by simpa using hz
    rw[zK3.mp f];exact q.alike g.all re.all (λy hy _=>l y hy) p r
 ·rintro α ⟨m,c,rfl,al⟩;rw[zI5,zO4]at al;and_intros;exact t al
theorem zs5 {ds es:List PyData}(h:zq ds)(s:es.Sublist ds):zq es:=λd hd=>h d (s.subset hd)
theorem nh (ds:List PyData)(n:Nat):L2.cutD ds (some ((n:Nat):Int)) none=ds.drop n:=by
 unfold L2.cutD;rw[HT.af,HT.dY];rcases zN2 n ds.length with h|h
 ·rw[zZ8 (zN6 h),List.take_of_length_le (by rw[zW3];lia)]
 ·rw[Nat.min_eq_right h,zR6,z21 h,List.take_nil]
theorem cA {C:Addr}(F:FnD K mg "tidied" ze1 ["book"])(nb:NbT mg)(p:Cal P w K mg base "unlike" 4 (lu C cs))(m:vk P w K mg base "Book" 9 [] (uk C cs))(l:yQ P w K mg base C "rules" 3 (wM C cs)):Cal P w K mg base "tidied" 11 (dJ C cs):=by
 refine zX ["book","rules","left","place","rule"] F λ_ _ o _ _ _ _ _ Q nd hr h=>?_;obtain⟨ds,rfl,b,n,q⟩:=h;and_intros;refine⟨b.rules,by lia,?_⟩;and_intros;refine yh (.many [3,4]) (tL (by rfl) nb.enumerate (zg 1 rfl ⟨_,rfl,?_⟩));refine zH (λi α=>∃(ls:List PyData) (c g:Option A),α=[some (.dat (zC C cs ds)),some (.dat (.list ds)),some (.own ls),c,g]/\zq ls/\ls.length<=i/\xg ds ls (ds.drop i)=xX ds) ⟨[],none,none,rfl,λd hd=>by simp at hd,zJ0 _,rfl⟩ ?_ ?_
 ·rintro i d α hd ⟨ls,c,g,rfl,a,k,kp⟩;obtain⟨e,he,rfl⟩:=xj hd;have hi:i<ds.length:=(zI8.mp he).1;have re:=b e (zL8 he);refine⟨_,rfl,?_⟩;have j:ds.drop i=e::ds.drop (i+1):=by
   rw[zM4 hi];have:=(zI8.mp he).2;rw[this]
  have rc:zq (ls++ds.drop (i+1)):=λd hd=>(zK6.mp hd).elim (a d) λz=>b d (zQ4 z);have lc:(ls++ds.drop (i+1)).length<=15:=by rw[zL4,zW3];lia
  rw[j]at kp;unfold xg at kp;refine va (tM 2 rfl (lM ?_));and_intros;rw[show(((0+i:Nat):Int)+1)=((i+1:Nat):Int) by lia,nh];refine⟨by rw[zL4]at lc;lia,?_⟩;and_intros;refine⟨ls++ds.drop (i+1),.inl rfl,rc.rules,by lia,?_⟩;and_intros;refine⟨ds,ls++ds.drop (i+1),rfl,b,rc,by lia,λal=>?_,λf x day=>?_⟩
  ·rw[if_pos al]at kp;exact xu rfl (zt (zt ⟨ls,_,_,rfl,a,by lia,kp⟩))
  ·rw[if_neg f]at kp;refine qI rfl ?_;refine wK 2 rfl (zg 4 rfl ⟨by lia,zt (zt ⟨ls++[e],_,_,rfl,λd hd=>?_,by rw[zL4];exact Nat.add_le_add_right k 1,kp⟩)⟩);rcases zK6.mp hd with z|z
   ·exact a d z
   ·rw[zK3.mp z];exact re
 ·rintro α ⟨ls,c,g,rfl,a,k,kp⟩;rw[yJ,zR6]at kp;have kp:ls=xX ds:=by simpa[xg]using kp
  refine vf 2 rfl ?_;and_intros;refine⟨ls,.inl rfl,a.rules,by rw[yJ]at k;lia,?_⟩;rw[kp];exact q
end
abbrev zA2 :Stmt:=top 10
abbrev zw7 :Stmt:=top 11
abbrev zd2 :Stmt:=top 12
abbrev sSD :Stmt:=top 42
abbrev gU :Stmt:=top 43
def PrL (l:List PyData):Prop:=∀e∈l,∃x y:Int,e=.tuple [.int x,.int y]
def Cov (l:List PyData)(d:Int):Prop:=∃x y:Int,PyData.tuple [.int x,.int y]∈l/\x<=d/\d<=y
structure Lk (l:List PyData)(n:Nat)(S:Int->Prop):Prop where
 pr:PrL l
 len:l.length<=n
 cov:∀d,S d->Cov l d
theorem sE {l:List PyData}{x y d:Int}:Cov (l++[.tuple [.int x,.int y]]) d↔Cov l d\/(x<=d/\d<=y):=by
 constructor
 ·rintro⟨a,b,h,c,e⟩;rcases zK6.mp h with h|h
  ·exact .inl ⟨a,b,h,c,e⟩
  ·cases zK3.mp h;exact .inr ⟨c,e⟩
 ·rintro(⟨a,b,h,c,e⟩|⟨c,e⟩)
  ·exact⟨a,b,zL1 _ h,c,e⟩
  ·exact⟨x,y,zK4 _ zJ6,c,e⟩
theorem Lk.snoc {l:List PyData}{n:Nat}{S T:Int->Prop}{x y:Int}(h:Lk l n S)(k:∀d,T d->S d\/(x<=d/\d<=y)):Lk (l++[.tuple [.int x,.int y]]) (n+1) T:=⟨λe he=>by
 rcases zK6.mp he with z|z
 ·exact h.pr e z
 ·exact⟨x,y,zK3.mp z⟩,by rw[zL4];exact Nat.add_le_add_right h.len 1,λd hd=>sE.mpr ((k d hd).imp (h.cov d) id)⟩
theorem Lk.to {l:List PyData}{m n:Nat}{S T:Int->Prop}(h:Lk l n S)(e:n<=m)(k:∀d,T d->S d):Lk l m T:=⟨h.pr,zK1 h.len e,λd hd=>h.cov d (k d hd)⟩
def ze3 :Ph:=λas Q=>∃a b:Int,as=[.dat (.list [.tuple [.int a,.int b]])]/\Q (.own [.tuple [.int a,.int b]])
def zc7 :Ph:=λas Q=>∃(ps:List PyData) (a b:Int),as=[.dat (.list ps),.dat (.tuple [.int a,.int b])]/\PrL ps/\ps.length<=64/\∀l,Lk l (2*ps.length) (λd=>Cov ps d/\¬(a<=d/\d<=b))->Q (.own l)
def cL :Ph:=λas Q=>∃(a b:Int) (c:List PyData),as=[.dat (.list [.tuple [.int a,.int b]]),.dat (.list c)]/\PrL c/\c.length<=6/\∀l,Lk l 64 (λd=>(a<=d/\d<=b)/\¬Cov c d)->Q (.own l)
def zz4 :Ph:=λas Q=>∃d es,as=[.dat d,.dat (.list es)]/\zN d=true/\(∀e∈es,zN e=true)/\es.length<=6/\Vis d es/\∀l,PrL l->l≠[]->Q (.own l)
def lX (C:Addr)(cs:Cs):Ph:=λas Q=>∃fs,as=[.dat (zC C cs fs)]/\zq fs/\fs.length<=6/\(∀a r b,fs=a++r::b->Vis r b)/\∀ls,(∀e∈ls,∃l,e=.list l/\PrL l/\l≠[])->Q (.dat (.list ls))
def bQ :PyData->Str
 |.tuple [.str x,_,_,_]=>x
 |_=>"price"
def spD :PyData->PyData
 |.tuple [_,a,b,_]=>.tuple [a,b]
 |_=>.none
section
variable {P:Program}{w:World}{K:PySem.W.Frag}{mg:Str->Option Value}{base:Heap}{cs:Cs}
theorem bx (F:FnD K mg "spread" zA2 ["stretches"])(nb:NbT mg):Cal P w K mg base "spread" 1 ze3:=by
 refine zX ["stretches","rising","stretch"] F λ_ _ c _ _ _ _ _ Q nd hr h=>?_;obtain⟨a,b,rfl,q⟩:=h;refine yz 1 nd (yL ?_);and_intros;refine yh (.one 2) (zZ (EvL.d (nW (by rfl) nb.sorted (zg 0 rfl ⟨_,rfl,_,rfl,?_⟩))));refine⟨_,rfl,va (tM 1 rfl (EvW.t (lq ?_)))⟩;and_intros;exact⟨by decide,zt (zt (xy 1 rfl q))⟩
theorem bo (F:FnD K mg "without" zw7 ["rising","gone"])(nb:NbT mg):Cal P w K mg base "without" 1 zc7:=by
 refine zX ["rising","gone","left","stretch"] F λ_ _ m _ _ _ _ _ Q nd hr h=>?_;obtain⟨ps,a,b,rfl,pp,n,q⟩:=h;refine yz 2 nd (yL ?_);and_intros;refine yh (.one 3) (zZ (zg 0 rfl ⟨_,rfl,?_⟩));refine zH (λi α=>∃(l:List PyData) (g:Option A),Lk l (2*i) (λd=>Cov (ps.take i) d/\¬(a<=d/\d<=b))/\α=[some (.dat (.list ps)),some (.dat (.tuple [.int a,.int b])),some (.own l),g]) ⟨[],none,⟨λe he=>by simp at he,zJ0 _,λd ⟨⟨x,y,h,_⟩,_⟩=>by simp at h⟩,rfl⟩ ?_ ?_
 ·rintro i d α hd ⟨l,g,c,rfl⟩;have hi:=(zI8.mp hd).1;have j:=c.len;obtain⟨x,y,rfl⟩:=pp d (zL8 hd);refine⟨_,rfl,?_⟩;refine uE (λα=>∃l,Lk l (2*i+1) (λd=>(Cov (ps.take i) d/\¬(a<=d/\d<=b))\/(x<=d/\d<=y/\d<a))/\α=[some (.dat (.list ps)),some (.dat (.tuple [.int a,.int b])),some (.own l),some (.dat (.tuple [.int x,.int y]))]) ?_ ?_
  ·and_intros;refine xi (λh=>?_) (λh=>?_)
   ·and_intros;refine⟨by lia,zt (zt ⟨_,c.snoc λd hd=>hd.imp id λz=>⟨z.1,by split<;>lia⟩,rfl⟩)⟩
   ·have h:=z03 h;exact zt (zt ⟨l,c.to (by lia) λd hd=>hd.resolve_right λz=>by lia,rfl⟩)
  rintro α ⟨l,c,rfl⟩;have j:=c.len;have fin:∀d,Cov (ps.take (i+1)) d/\¬(a<=d/\d<=b)->((Cov (ps.take i) d/\¬(a<=d/\d<=b))\/(x<=d/\d<=y/\d<a))\/(x<=d/\b<d/\d<=y):=λd ⟨f,k⟩=>by
   rw[take_snoc hd,sE]at f;rcases f with f|f
   ·exact .inl (.inl ⟨f,k⟩)
   ·by_cases z:d<a
    ·exact .inl (.inr ⟨f.1,f.2,z⟩)
    ·exact .inr ⟨f.1,by lia,f.2⟩
  and_intros;refine xi (λh=>?_) (λh=>?_)
  ·and_intros;refine⟨by lia,zt (zt ⟨_,_,(c.snoc λd hd=>(fin d hd).imp id λz=>⟨by split<;>lia,z.2.2⟩),rfl⟩)⟩
  ·have h:=z03 h;exact zt (zt ⟨l,_,c.to (by lia) λd hd=>(fin d hd).resolve_right λz=>by lia,rfl⟩)
 ·rintro α ⟨l,g,c,rfl⟩;rw[zO4]at c;exact xy 2 rfl (q l c)
theorem cy (F:FnD K mg "less" zd2 ["stretches","others"])(s:Cal P w K mg base "spread" 1 ze3)(r:Cal P w K mg base "without" 1 zc7):Cal P w K mg base "less" 2 cL:=by
 refine zX ["stretches","others","left","gone"] F λ_ _ _ _ _ _ _ _ Q nd hr h=>?_;obtain⟨a,b,k,rfl,pg,m,q⟩:=h;refine yz 2 nd ?_;and_intros;refine⟨a,b,rfl,_,rfl,?_⟩;refine yh (.one 3) (zZ (zg 1 rfl ⟨_,rfl,?_⟩));have pw:∀i,i<=6->2 ^ i<=64:=λi h=>Nat.pow_le_pow_right (n:=2) (by decide) h;refine zH (λi α=>∃(l:List PyData) (g:Option A),Lk l (2 ^ i) (λd=>(a<=d/\d<=b)/\¬Cov (k.take i) d)/\α=[some (.dat (.list [.tuple [.int a,.int b]])),some (.dat (.list k)),some (.own l),g]) ⟨_,none,⟨λe he=>⟨a,b,zK3.mp he⟩,zJ0 _,λd hd=>⟨a,b,zJ6,hd.1.1,hd.1.2⟩⟩,rfl⟩ ?_ ?_
 ·rintro i d α hd ⟨l,g,f,rfl⟩;have hi:=(zI8.mp hd).1;have p:=f.len;have:=pw i (by lia);obtain⟨x,y,rfl⟩:=pg d (zL8 hd);refine⟨_,rfl,vf 2 rfl (yz 2 nd ?_)⟩;and_intros;refine⟨l,x,y,rfl,f.pr,by lia,λo j=>⟨_,rfl,zt ⟨o,_,j.to (by rw[Nat.pow_succ];lia) λd c=>?_,rfl⟩⟩⟩;rw[take_snoc hd,sE]at c;exact⟨f.cov d ⟨c.1,λz=>c.2 (.inl z)⟩,λz=>c.2 (.inr z)⟩
 ·rintro α ⟨l,g,f,rfl⟩;rw[zO4]at f;exact xy 2 rfl (q l (f.to (pw _ m) λd hd=>hd))
theorem zp7 (F:FnD K mg "shown_days" sSD ["rule","newer"])(s:Cal P w K mg base "less" 2 cL):Cal P w K mg base "shown_days" 3 zz4:=by
 refine zX ["rule","newer","hidden"] F λ_ _ _ _ _ _ _ _ Q nd hr h=>?_;obtain⟨d,es,rfl,hd,he,le,⟨x,day,o,m⟩,q⟩:=h;obtain⟨a,b,v,rfl,C,ad,db,A,hw⟩:=rH hd o;refine gN 2 ["other","rule"] [none,some 0] (.one 0) (zZ (zg 1 rfl ⟨_,rfl,by lia,?_⟩));refine xQ (λe=>decide (bQ e=x)) spD (λe hm=>?_) ?_
 ·obtain⟨u,B,t,g,j,rfl,_⟩:=zL (he e hm);refine⟨_,rfl,λ_ _ _ _ Q k=>qt ?_,λ_ _ _ _ _ Q k=>?_⟩<;>and_intros<;>exact k
 rw[zV1];have hg:∀e∈(es.filter λe=>decide (bQ e=x)).map spD,∃p q:Int,e=.tuple [.int p,.int q]/\¬(p<=day/\day<=q):=λe hm=>by
  obtain⟨f,hf,rfl⟩:=zX9.mp hm;obtain⟨hf,n⟩:=zX0.mp hf;obtain⟨u,p,q,g,j,rfl,_⟩:=zL (he f hf);refine⟨p,q,rfl,λz=>?_⟩;have:=m _ hf;rw[show yu x day (.tuple [.str u,.int p,.int q,g])=(decide (u=x)&&(decide (p<=day)&&decide (day<=q)))from rfl,show decide (u=x)=true from n,zM1 z.1,zM1 z.2]at this;cases this
 have i:((es.filter λe=>decide (bQ e=x)).map spD).length<=6:=by
  rw[zI5];exact zK1 (z25 _ _) le
 generalize (es.filter λe=>decide (bQ e=x)).map spD=gs at hg i;refine vf 2 rfl (xS ?_);and_intros;refine⟨a,b,gs,rfl,λe hm=>?_,i,λl c=>⟨_,rfl,q l c.pr ?_⟩⟩
 ·obtain⟨p,q,e,_⟩:=hg e hm;exact⟨p,q,e⟩
 ·rintro rfl;obtain⟨_,_,h,_⟩:=c.cov day ⟨⟨ad,db⟩,λ⟨p,q,hm,r,hq⟩=>by
   obtain⟨D,y,e,no⟩:=hg _ hm;cases e;exact no ⟨r,hq⟩⟩
  simp at h
theorem jr {C:Addr}(F:FnD K mg "shown" gU ["book"])(nb:NbT mg)(j:Cal P w K mg base "shown_days" 3 zz4)(g:yQ P w K mg base C "rules" 3 (wM C cs)):Cal P w K mg base "shown" 4 (lX C cs):=by
 refine zX ["book","rules"] F λ_ _ _ _ _ _ _ _ Q nd hr h=>?_;obtain⟨fs,rfl,b,lf,c,q⟩:=h;refine yU 1 nd ?_;and_intros;refine⟨b.rules,by lia,?_⟩;refine yV (EvL.d (me ["place","rule","rules"] [none,none,some 1] (.many [0,1]) (tL (by rfl) nb.enumerate (zg 1 rfl ⟨_,rfl,by rw[yJ];lia,?_⟩))));refine wQ (λi acc=>∀e∈acc,∃l,e=.list l/\PrL l/\l≠[]) (λe he=>by simp at he) (λi d acc hd ha=>?_) (λacc ha=>q acc ha);obtain⟨r,a,rfl⟩:=xj hd;refine⟨_,rfl,λ_ _ _ _=>uC ?_⟩;rw[if_pos rfl];intro _ _ _ _;and_intros;rw[show(((0+i:Nat):Int)+1)=((i+1:Nat):Int) by lia,nh];have hm:=zL8 a;have f:fs=fs.take i++r::fs.drop (i+1):=by
  have hi:=(zI8.mp a).1;rw[<-(zI8.mp a).2,<-zM4 hi,zL6]
 refine⟨r,fs.drop (i+1),rfl,b.all r hm,λe he=>b.all e (zQ4 he),by rw[zW3];lia,c _ _ _ f,λl pl nl=>λe he=>?_⟩;rcases zK6.mp he with z|z
 ·exact ha e z
 ·exact⟨l,zK3.mp z,pl,nl⟩
end
abbrev sAF :Stmt:=top 72
abbrev zz0 :Stmt:=top 73
def zw2 (C:Addr)(cs:Cs):Ph:=λas Q=>∃(ds es:List PyData) (c g:Int),as=[.dat (zC C cs ds),.dat (zC C cs es),.dat (.tuple [.int c,.int g])]/\zq ds/\zq es/\Alike ds es/\wZ c g/\Q (.dat (.bool true))
def zi1 (C:Addr)(cs:Cs):Ph:=λas Q=>∃(y:Int) (ds os:List PyData),as=[.tape,.dat (.int y),.dat (zC C cs ds),.dat (zC C cs os)]/\0<=y/\y<=1000000/\zq ds/\zq os/\ds.length<=6/\os.length<=6/\Q (.dat (.bool true))
theorem bG {l:List PyData}(h:PrL l):PyData.canLayAll0 l=true/\PyData.hasDictAll l=false:=by
 induction l with
 |nil=>exact⟨rfl,rfl⟩
 |cons e l a=>
  obtain⟨x,y,rfl⟩:=h e zJ6;have a:=a λf hf=>h f (zJ2 _ hf);simp[PyData.canLayAll0,PyData.canLay0,PyData.hasDictAll,PyData.hasDict,a.1,a.2]
theorem zl3 {ls:List PyData}(h:∀e∈ls,∃l,e=.list l/\PrL l/\l≠[]):PyData.canLayAll0 ls=true/\PyData.hasDictAll ls=false/\(ls.any λy=>PyData.eqv y (.list []))=false:=by
 induction ls with
 |nil=>exact⟨rfl,rfl,rfl⟩
 |cons e ls a=>
  obtain⟨l,rfl,pl,nl⟩:=h e zJ6;obtain⟨p1,p2⟩:=bG pl;obtain⟨i1,i2,i3⟩:=a λf hf=>h f (zJ2 _ hf);refine⟨by simp[PyData.canLayAll0,PyData.canLay0,p1,i1],by simp[PyData.hasDictAll,PyData.hasDict,p2,i2],?_⟩;rw[zY6,i3,lL,Bool.or_false];exact List.isEmpty_eq_false_iff.mpr nl
section
variable {P:Program}{w:World}{K:PySem.W.Frag}{mg:Str->Option Value}{base:Heap}{cs:Cs}
theorem zt9 {C:Addr}(F:FnD K mg "_law_alike_for" sAF ["_law_one","_law_other","_law_stay_here"])(f:Cal P w K mg base "bars" 3 (qO C cs))(e:Cal P w K mg base "can_be_had" 4 (dH C cs))(k:Cal P w K mg base "cost" 6 (ff C cs)):Cal P w K mg base "_law_alike_for" 7 (zw2 C cs):=by
 refine zX ["_law_one","_law_other","_law_stay_here"] F λ_ _ i _ _ _ _ _ Q nd hr h=>?_;obtain⟨ds,es,c,g,rfl,b,re,al,sb,q⟩:=h;obtain⟨j,l,g1,g2⟩:=id sb;have n:=ui (ds:=ds) sb;have d:=sQ al sb;and_intros;refine⟨ds,c,g,rfl,b.rules,by lia,by lia,by lia,by lia,?_⟩;and_intros;refine⟨es,c,g,rfl,re.rules,by lia,by lia,by lia,by lia,?_⟩;rw[<-d];refine eqk n.shaped n.shaped n.nod n.nod ?_;refine xu (by show(!PyData.eqv (.list _) (.list _))=false;rw[SeqAt.eqv_refl _ n.lay];rfl) (zt ?_);and_intros;refine⟨ds,c,g,rfl,b,sb,?_⟩;cases hh:vB ds c g with
 |false=>
  and_intros;exact q
 |true=>
  have he:vB es c g=true:=by unfold vB;rw[<-d];exact hh
  have a:=oO al sb;unfold coO at a;rw[if_pos hh,if_pos he]at a;injection a with a;and_intros;refine⟨ds,c,g,rfl,b,sb,hh,?_⟩;and_intros;refine⟨es,c,g,rfl,re,sb,he,?_⟩;rw[a];and_intros;show Q (.dat (.bool (PyData.eqv (.int _) (.int _))));rw[SeqAt.eqv_refl _ rfl];exact q
theorem cY {C:Addr}(F:FnD K mg "_law_right" zz0 ["_law_row","_law_day_here","_law_book","_law_other"])(nb:NbT mg)(t:Cal P w K mg base "tidied" 11 (dJ C cs))(x:Cal P w K mg base "unlike" 4 (lu C cs))(B:Cal P w K mg base "apart" 7 (gC C cs))(p:Cal P w K mg base "_law_alike_for" 7 (zw2 C cs))(u:Cal P w K mg base "_law_stay" 2 lW)(s:Cal P w K mg base "laid" 11 (gp C cs))(z:Cal P w K mg base "shown" 4 (lX C cs)):Cal P w K mg base "_law_right" 12 (zi1 C cs):=by
 refine zX ["_law_row","_law_day_here","_law_book","_law_other","_law_found","_law_k"] F λ_ _ v _ _ _ _ _ Q nd hr h=>?_;obtain⟨y,ds,os,rfl,o,m,f,j,ld,lo,q⟩:=h;have rt:=zs5 f (oA ds);have lt:=(oA ds).length_le;have al:=nI ds;have l:∀a r b,xX ds=a++r::b->Vis r b:=λa r b e=>gL e;and_intros;refine⟨f,by lia,?_⟩;generalize xX ds=fs at rt lt al l;and_intros;refine⟨ds,fs,rfl,f,rt,by lia,λ_=>?_,λno=>absurd al no⟩;and_intros;refine⟨fs,ds,rfl,rt,f,by lia,λ_=>?_,λno=>absurd al.symm no⟩;and_intros;refine⟨ds,fs,rfl,f,rt,by lia,by lia,λ_ a=>?_⟩;rw[rS al a];refine xu rfl (zt ?_);refine yh (.one 5) (wU (by rfl) nb.range ?_);and_intros;refine⟨by decide,by decide,?_⟩;refine zH (λi α=>∃k:Option A,α=[some .tape,some (.dat (.int y)),some (.dat (zC C cs ds)),some (.dat (zC C cs os)),some (.dat (zC C cs fs)),k]) ⟨none,rfl⟩ ?_ ?_
 ·rintro i d α hd ⟨k,rfl⟩;refine⟨_,rfl,?_⟩;and_intros;refine⟨o,m,λc g sb=>?_⟩;and_intros;refine⟨ds,fs,c,g,rfl,f,rt,al,sb,?_⟩;and_intros;exact⟨_,rfl⟩
 ·rintro α ⟨k,rfl⟩;and_intros;refine⟨ds,os,rfl,f,j,by lia,?_⟩;and_intros;refine⟨fs,os,rfl,rt,j,by lia,?_⟩;and_intros;refine⟨ds++os,fs++os,rfl,f.app j,rt.app j,by simp;lia,λ_=>?_,λno=>absurd (jV al os) no⟩;refine xu rfl (zt ?_);refine yV (iX hr.units (EvL.d (yL (zx ⟨_,rfl,zP9 rfl,?_⟩))));and_intros;refine⟨rt,by lia,l,λls n=>?_⟩;obtain⟨l1,l2,l3⟩:=zl3 n;refine⟨ls,rfl,rfl,l1,rfl,l2,by decide,?_⟩;rw[l3];exact q
end
abbrev uY :Stmt:=top 74
def lcO :Expr:=match zw uY with
 |.For _ _ (_::_::.Assign _ e _::_) _ _::_=>e
 |_=>.Constant .none 0 default
def scO :Scope:=match lcO with
 |.ListComp _ _ sc _=>sc
 |_=>zf uY
def scI :Scope:=match lcO with
 |.ListComp (.ListComp _ _ sc _) _ _ _=>sc
 |_=>zf uY
theorem csI :zz ["_law_turn","_law_day_here","_law_row"] scO ["_law_k","_law_day_here","_law_row"] [none,some 1,some 2] scI:=⟨rfl,by decide +kernel,by decide +kernel,by decide +kernel,by decide +kernel,rfl,by decide +kernel⟩
theorem mem_lookup {x:Str}{k:NameKind}:∀{l:List (Str×NameKind)},l.lookup x=some k->(x,k)∈l
 |[],h=>by cases h
 |(y,j)::l,h=>by
  rw[zO0]at h;split at h
  ·rename_i e;cases h;rw[eq_of_beq e];exact zJ6
  ·exact zJ2 _ (mem_lookup h)
theorem nest {XN N:List Str}{xs scope:Scope}{imp:List (Option Nat)}{env:Env}(S:zz XN xs N imp scope)(a:∀y∈xs.names,y.2≠NameKind.cell):zz XN (relabel xs env) N imp scope:=by
 refine⟨S.kind,S.nd,S.nocell,S.locs,λy hy hf=>?_,S.len,S.impsB⟩;rcases S.frees y hy hf with h|h
 ·exact absurd rfl (a _ (mem_lookup h))
 ·exact wg (env:=env) h
section
variable {P:Program}{w:World}{K:PySem.W.Frag}{mg:Str->Option Value}{base:Heap}{cs:Cs}
abbrev nLa :List Str:=["_law_script","_law_cell","_law_row","_law_day_here","_law_told","_law_one","_law_other"]
theorem zw0 :zT nLa ["_law_script"] (zf uY):=.o
theorem iT {X:Cx}{α α0:Ev}{E:yo}{b:List Stmt}(c:α0.length=α.length)(le:∀(i:Nat) a,α0[i]?=some (some a)->α[i]?=some (some a))(h:SvS X α0 b E):SvS X α b E:=λF σ H D m r=>h F σ H D (m.forget c le) r
theorem ae {α:Ev}{n:Nat}{a:A}(c:α.length=n+2):∀(i:Nat) b,((none:Option A)::some a::List.replicate n none)[i]?=some (some b)->(α.set 1 (some a))[i]?=some (some b):=by
 intro i b h;rcases i with _|_|i
 ·cases h
 ·rw[zS7 (by lia)];exact h
 ·simp only[z04,zQ2]at h;split at h<;>cases h
theorem zr8 {f C:Addr}{fd:FuncData}(F:Fun K "law" "law" uY f fd)(nb:NbT mg)(t:Cal P w K mg base "_law_begin" 1 kI)(N:Cal P w K mg base "_law_take" 1 xP)(M:Cal P w K mg base "_law_day" 2 gn)(B:Cal P w K mg base "_law_rule" 4 kx)(L:vk P w K mg base "Book" 9 [] (uk C cs))(J:Cal P w K mg base "_law_right" 12 (zi1 C cs))(S:Cal P w K mg base "unlike" 4 (lu C cs))(T:Cal P w K mg base "apart" 7 (gC C cs)):yE P w K mg base CX0 13 f fd ["_law_script"] (oF K):=by
 refine zF4 (k:=12) (j:=1) F zw0 rfl (Or.inl rfl) rfl (Or.inl rfl) (λcdv O outer s H E zs hr Q=>?_);have nd:=zw0.nd;refine zH (λi α=>α.length=7) (by simp) ?_ ?_
 ·intro i d α hd o;rw[zK0,zL5]at hd;obtain⟨z,hz,rfl⟩:=hd;refine⟨_,rfl,?_⟩;refine iT (α0:=none::some (.dat (.int z))::List.replicate 5 none) (by rw[zP5,o];rfl) (ae o) ?_;refine yz 2 nd (xA t (hr.mono (by decide)) (by rfl) (zm (zg 1 rfl (zx ⟨z,rfl,λx y A p=>⟨_,rfl,?_⟩⟩))));refine zu0 2 rfl A p ?_;have ln:∀c:Ev,c.length=7->(yP c).length=7:=λc h=>by unfold yP;rw[zI5];exact h
  refine yU 3 nd ?_;and_intros;refine⟨rfl,λn m R=>?_⟩;refine gN 4 ["_law_turn","_law_day_here","_law_row"] [none,some 3,some 2] (.one 0) (wU (by rfl) nb.range ?_);and_intros;refine⟨by decide,by decide,by rw[zI5,zc];decide,?_⟩;refine wQ (λi acc=>acc.length=i/\∀e∈acc,∃ds,e=.list ds/\zq ds/\ds.length<=6) ⟨rfl,λe he=>by simp at he⟩ (λi d acc hd ⟨g,ha⟩=>⟨_,rfl,λC s2 l fp=>uC ?_⟩) (λacc ⟨g,ha⟩=>?_)
  ·rw[if_pos rfl];intro C s2 l fp;refine EvL.d (ji (pat:=.one 0) rfl (nest csI (by decide +kernel)) rfl (λ_ _ _ _=>zM (i:=0) csI.nd rfl (Or.inl rfl)) (wU (by rfl) nb.range ?_));and_intros;rename_i v v0 v1;refine⟨by lia,by lia,by rw[zI5,zc];lia,?_⟩;refine wQ (λi acc=>zq acc/\acc.length=i) ⟨λd hd=>by simp at hd,rfl⟩ (λi d acc hd ⟨I,g⟩=>⟨_,rfl,λC s2 l fp=>uC ?_⟩) (λds ⟨b,ld⟩=>?_)
   ·rw[if_pos rfl];intro C s2 l fp;and_intros;exact⟨m,by lia,λd b=>⟨I.snoc b,by rw[zL4,g];rfl⟩⟩
   ·rw[zI5,zc]at ld;refine⟨by rw[zL4,g];rfl,λe he=>?_⟩;rcases zK6.mp he with z|z
    ·exact ha e z
    ·exact⟨ds,zK3.mp z,b,by lia⟩
  obtain⟨ds,es,rfl,b,re,ld,le⟩:∃ds es,acc=[.list ds,.list es]/\zq ds/\zq es/\ds.length<=6/\es.length<=6:=by
   rw[zI5,zc]at g
   match acc,g with
   |[e,f],_=>
    obtain⟨ds,rfl,D,u⟩:=ha e (by simp);obtain⟨es,rfl,G,r⟩:=ha f (by simp);exact⟨ds,es,rfl,D,G,u,r⟩
  refine vf 4 rfl ?_;and_intros;refine⟨ds,.inl rfl,b.rules,by lia,?_⟩;and_intros;refine⟨es,.inl rfl,re.rules,by lia,?_⟩;and_intros;refine⟨n,ds,es,rfl,m,by lia,b,re,ld,le,?_⟩;and_intros;refine⟨n,es,ds,rfl,m,by lia,re,b,le,ld,?_⟩;and_intros;refine⟨ds,es,rfl,b,re,by lia,λal=>?_,λ_ x day=>?_⟩
  ·and_intros;refine⟨ds,es,rfl,b,re,by lia,by lia,λq a=>?_⟩;rw[rS al a];and_intros;exact ln _ rfl
  ·and_intros;exact ln _ rfl
 ·intro α _;exact yV (cu rfl)
end
theorem us1 {α:Type}{p:List α->Prop}(h:∀a,p [a])(us:List α)(b:us.length=1):p us:=by
 obtain⟨a,rfl⟩:=List.length_eq_one_iff.mp b;exact h a
theorem us2 {α:Type}{p:List α->Prop}(h:∀a b,p [a,b])(us:List α)(c:us.length=2):p us:=by
 cases us with
 |nil=>cases c
 |cons a us=>exact us1 (p:=λus=>p (a::us)) (h a) us (Nat.succ.inj c)
theorem us3 {α:Type}{p:List α->Prop}(h:∀a b c,p [a,b,c])(us:List α)(d:us.length=3):p us:=by
 cases us with
 |nil=>cases d
 |cons a us=>exact us2 (p:=λus=>p (a::us)) (h a) us (Nat.succ.inj d)
theorem us4 {α:Type}{p:List α->Prop}(h:∀a b c d,p [a,b,c,d])(us:List α)(e:us.length=4):p us:=by
 cases us with
 |nil=>cases e
 |cons a us=>exact us3 (p:=λus=>p (a::us)) (h a) us (Nat.succ.inj e)
def FnF (K:PySem.W.Frag)(f:Addr)(nm a:Str)(st:Stmt)(ps:List Str):Prop:=∃fd,Fun K nm a st f fd/\Binds K fd ps []
section
variable {K:PySem.W.Frag}{h0:Heap}{mg:Str->Option Value}{f:Addr}{nm ql:Str}{st:Stmt}{ps:List Str}{oc kV dc pm cd ct:Value}{od an:Option Addr}{sl:Array (Option Value)}
theorem mkF (l:K.lookup f=some ⟨oc,od,.func (PySem.W.fnOf nm ql (zJ st) (zw st) (zf st) .none kV dc pm an cd ct),sl⟩)(c:PySem.W.codeIn K cd ql=true)(k:PySem.W.keepIn K (.ref f)=true)
  (hb:∀(kV doc pm:Value) (an:Option Addr) (cdv ct:Value) (us:List Value),us.length=ps.length->bindArgs (PySem.W.fnOf nm ql (zJ st) (zw st) (zf st) .none kV doc pm an cdv ct) ⟨us,[]⟩=pure (ps.zip us):=by intro _ _ _ _ _ _;first|exact K74.us1 λ_=>rfl|exact K74.us2 λ_ _=>rfl|exact K74.us3 λ_ _ _=>rfl|exact K74.us4 λ_ _ _ _=>rfl):FnF K f nm ql st ps:=⟨_,qz l c k,(qz l c k).binds hb⟩
theorem mkG (X:K.In h0)(G:h0.Ns mainGlobals mg)(a:PySem.W.nsIn K mainGlobals nm=some (some (.ref f)))(q:FnF K f nm nm st ps):FnD K mg nm st ps:=by
 obtain⟨_,F,b⟩:=q;exact⟨f,_,F,zN0 X G a,b⟩
end
theorem mkR {K:PySem.W.Frag}{C b gt ge a:Addr}(pg:PySem.W.plainGet K C Str.empty=true)(hd:PySem.W.hasDictIn K C=true)(po:PySem.W.plainOver K C=true)(sa:PySem.W.findIn K (.ref C) "__setattr__"=some (some (.builtin "object.__setattr__")))(n1:PySem.W.findIn K (.ref C) "first"=some none)(n2:PySem.W.findIn K (.ref C) "last"=some none)(d:PySem.W.findIn K (.ref C) "worth"=some none)(mk:PySem.W.makesIn K C=true)(f1:PySem.W.findIn K (.ref C) "__init__"=some (some (.ref b)))(i1:PySem.W.isFn K (.ref b)=true)(i:PySem.W.keepIn K (.ref C)=true)(f2:PySem.W.findIn K (.ref C) "told"=some (some (.ref gt)))(i2:PySem.W.isFn K (.ref gt)=true)(g:PySem.W.keepIn K (.ref gt)=true)(f:PySem.W.findIn K (.ref C) "tells"=some (some (.ref ge)))(i3:PySem.W.isFn K (.ref ge)=true)(h:PySem.W.keepIn K (.ref ge)=true)(f4:PySem.W.findIn K (.ref C) "word"=some (some (.ref a)))(c:PySem.W.isFn K (.ref a)=true)(e:PySem.W.keepIn K (.ref a)=true):tf K C b gt ge a:=⟨⟨pg,hd,po,sa⟩,n1,n2,d,⟨mk,f1,i1,i⟩,⟨f2,i2,g⟩,⟨f,i3,h⟩,⟨f4,c,e⟩⟩
theorem jK {K:PySem.W.Frag}{dT:Addr}{oc kV doc pm cdv ct:Value}{od an:Option Addr}{n:Nat}{sl:Array (Option Value)}(b:K.lookup dT=some ⟨oc,od,.seq #[.none] n,sl⟩):
  Binds K (PySem.W.fnOf "__init__" "Book.__init__" (zJ yW) (zw yW) (zf yW) (.ref dT) kV doc pm an cdv ct) ["self","rules"] [.none]:=λs us hk a=>by
 match us,(show us.length=1 by rw[zL4]at a;simpa using a)with
 |[u],_=>exact BindsTo.of_defaults (T:=dT) rfl (hk _ _ b) rfl rfl rfl
theorem jI {K:PySem.W.Frag}{dT:Addr}{oc kV doc pm cdv ct:Value}{od an:Option Addr}{n:Nat}{sl:Array (Option Value)}(b:K.lookup dT=some ⟨oc,od,.seq #[.none] n,sl⟩):
  Binds K (PySem.W.fnOf "__init__" "Book.__init__" (zJ yW) (zw yW) (zf yW) (.ref dT) kV doc pm an cdv ct) ["self","rules"] []:=λs us hk a=>by
 rw[zO1]at a ⊢
 match us,a with
 |[u,v],_=>exact BindsTo.of_defaults (T:=dT) rfl (hk _ _ b) rfl rfl rfl
theorem bT {P:Str->Prop}(e:P "price")(f:P "come")(g:P "go")(h:P "least")(c:P "most")(d:P "deal")(b:P "fee"):∀u∈words,P u:=by
 intro u a;simp only[words,zJ1,zK5,zN1]at a;rcases a with rfl|rfl|rfl|rfl|rfl|rfl|rfl<;>assumption
theorem all_mk {l:PySem.W.OpenLaw}{w:World}{K:PySem.W.Frag}{h:Heap}{mg:Str->Option Value}{fa cC j1 k9 p m g a3 b9 h2 a4 b8 b5 d1 a f Q b c d q CB dT k J N dU:Addr}(X:K.In h)(G:h.Ns mainGlobals mg)(u0:mg "law"=some (.ref fa))
  {m6 l6 o4 j8 t6 s1 r0:Option Addr} {o7 m5 r5 r9:Array (Option Value)} {l8 o3 n8 l5 n6 o0 j9 j6 j5 j7 f6 t0 t9 p6 v5 s5 n2 w9:Value} {l3 h7 m0 m9 n7 v6 u9 r4 u5 w7 r1 v2 u1 w2 n0:Tok} {m1 m2 o8 l7 n3 n9 m7:Int} {nT nU:Nat}
  (b7:FnD K mg "is_whole" eO ["thing"])
  (C:FnD K mg "is_whole_within" kM ["thing","lowest","highest"])
  (c6:FnD K mg "is_pair" zk1 ["thing"])
  (e7:FnD K mg "is_day" zz8 ["thing"])
  (B:FnD K mg "is_pair_of_days" zi8 ["thing"])
  (T:FnD K mg "is_stretch" og ["thing"])
  (c0:FnD K mg "is_coins" gr ["thing"])
  (c8:FnD K mg "is_deal" lR ["thing"])
  (b6:FnD K mg "is_worth" dW ["word","thing"])
  (c7:FnD K mg "is_rule" kN ["thing"])
  (j0:FnD K mg "made" zg5 ["word","first","last","worth"])
  (c3:FnD K mg "rule_of" lS ["thing"])
  (a8:FnD K mg "nights_of" kO ["stay"])
  (e0:FnD K mg "spread" zA2 ["stretches"])
  (c5:FnD K mg "without" zw7 ["rising","gone"])
  (h5:FnD K mg "less" zd2 ["stretches","others"])
  (g5:FnD K mg "usual" eB ["word"])
  (V:FnD K mg "kept_rules" ze8 ["things"])
  (i3:FnD K mg "laid" zf6 ["elder","newer"])
  (a0:FnD K mg "shown_days" sSD ["rule","newer"])
  (g9:FnD K mg "shown" gU ["book"])
  (g2:FnD K mg "edges" dq ["rules","word"])
  (e2:FnD K mg "unlike" zB5 ["one","other"])
  (f0:FnD K mg "tidied" ze1 ["book"])
  (t7:PySem.W.nsIn K mainGlobals "cheapest_first"=some (some (.ref j1)))
  (o5:K.lookup j1=some ⟨l8,m6,.func (PySem.W.fnOf "cheapest_first" "cheapest_first" (zJ yt) (zw yt) (zf yt) .none o3 n8 l5 l6 (.ref cC) n6),o7⟩)
  (o1:PySem.W.codeIn K (.ref cC) "cheapest_first"=true)
  (n4:PySem.W.keepIn K (.ref j1)=true)
  (e3:FnD K mg "marked" vF ["prices","deal"])
  (S:FnD K mg "night_prices" sNP ["book","nights"])
  (i8:FnD K mg "bill" si ["book","stay"])
  (i4:FnD K mg "bars" oW ["book","stay"])
  (Y:FnD K mg "can_be_had" zx7 ["book","stay"])
  (i0:FnD K mg "cost" zf1 ["book","stay"])
  (R:FnD K mg "cost_or_none" zD6 ["book","stay"])
  (c1:FnD K mg "turns_by" sTb ["rule","many"])
  (h1:FnD K mg "turns" sTn ["rules","many"])
  (g8:FnD K mg "apart" zC0 ["one","other"])
  (Z:FnD K mg "_law_begin" gF ["_law_cell"])
  (a9:FnD K mg "_law_take" dB ["_law_row","_law_base"])
  (U:FnD K mg "_law_coins" lF ["_law_row"])
  (a2:FnD K mg "_law_worth" ja ["_law_row","_law_word"])
  (b3:FnD K mg "_law_rule" cG ["_law_row","_law_day_here"])
  (b4:FnD K mg "_law_day" zd4 ["_law_row"])
  (b0:FnD K mg "_law_stay" fC ["_law_row","_law_day_here"])
  (F:FnD K mg "_law_alike_for" sAF ["_law_one","_law_other","_law_stay_here"])
  (a1:FnD K mg "_law_right" zz0 ["_law_row","_law_day_here","_law_book","_law_other"])
  (v9:PySem.W.nsIn K mainGlobals "law"=some (some (.ref k9)))
  (q0:K.lookup k9=some ⟨o0,o4,.func (PySem.W.fnOf "law" "law" (zJ uY) (zw uY) (zf uY) .none j9 j6 j5 j8 f6 j7),m5⟩)
  (s0:PySem.W.codeIn K f6 "law"=true)
  (q5:PySem.W.keepIn K (.ref k9)=true)
  (f8:PySem.W.nsIn K mainGlobals "Price"=some (some (.ref a)))
  (i5:PySem.W.nsIn K mainGlobals "Come"=some (some (.ref f)))
  (o2:PySem.W.nsIn K mainGlobals "Go"=some (some (.ref Q)))
  (f2:PySem.W.nsIn K mainGlobals "Least"=some (some (.ref b)))
  (j3:PySem.W.nsIn K mainGlobals "Most"=some (some (.ref c)))
  (h6:PySem.W.nsIn K mainGlobals "Deal"=some (some (.ref d)))
  (k7:PySem.W.nsIn K mainGlobals "Fee"=some (some (.ref q)))
  (z:tf K a p m g a3)
  (M:tf K f p m g b9)
  (d5:tf K Q p m g h2)
  (A:tf K b p m g a4)
  (L:tf K c p m g b8)
  (O:tf K d p m g b5)
  (a6:tf K q p m g d1)
  (i1:FnF K p "__init__" "Rule.__init__" zf2 ["self","first","last","worth"])
  (j4:FnF K m "told" "Rule.told" zh8 ["self"])
  (g1:FnF K g "tells" "Rule.tells" dO ["self","day"])
  (e6:FnF K a3 "word" "Price.word" aQ ["self"])
  (g0:FnF K b9 "word" "Come.word" zt3 ["self"])
  (k1:FnF K h2 "word" "Go.word" zG4 ["self"])
  (d4:FnF K a4 "word" "Least.word" br ["self"])
  (f9:FnF K b8 "word" "Most.word" zl1 ["self"])
  (f4:FnF K b5 "word" "Deal.word" zs8 ["self"])
  (i2:FnF K d1 "word" "Fee.word" zA4 ["self"])
  (t2:PySem.W.nsIn K mainGlobals "Book"=some (some (.ref CB)))
  (d3:PySem.W.findIn K (.ref CB) "__init__"=some (some (.ref k)))
  (e8:PySem.W.isFn K (.ref k)=true)
  (h4:K.lookup k=some ⟨t0,t6,.func (PySem.W.fnOf "__init__" "Book.__init__" (zJ yW) (zw yW) (zf yW) (.ref dT) t9 p6 v5 s1 n2 s5),r5⟩)
  (h0:PySem.W.codeIn K n2 "Book.__init__"=true)
  (f5:PySem.W.keepIn K (.ref k)=true)
  (lT:K.lookup dT=some ⟨w9,r0,.seq #[.none] nT,r9⟩)
  (d0:PySem.W.findIn K (.ref CB) "rules"=some (some (.ref J)))
  (c9:PySem.W.isFn K (.ref J)=true)
  (d6:FnF K J "rules" "Book.rules" vU ["self"])
  (c4:PySem.W.findIn K (.ref CB) "tells_of"=some (some (.ref N)))
  (c2:PySem.W.isFn K (.ref N)=true)
  (e4:FnF K N "tells_of" "Book.tells_of" kC ["self","word","day"])
  (w6:PySem.W.plainGet K CB Str.empty=true)
  (v0:PySem.W.hasDictIn K CB=true)
  (q3:PySem.W.plainOver K CB=true)
  (s8:PySem.W.findIn K (.ref CB) "__setattr__"=some (some (.builtin "object.__setattr__")))
  (s9:PySem.W.makesIn K CB=true)
  (u8:PySem.W.keepIn K (.ref CB)=true)
  (l0:PySem.W.findIn K (.ref CB) "kept"=some none)
  (z1:PySem.W.nsIn K mainGlobals "abs"=some none)
  (z2:PySem.W.nsIn K mainGlobals "list"=some none)
  (z3:PySem.W.nsIn K mainGlobals "len"=some none)
  (z4:PySem.W.nsIn K mainGlobals "range"=some none)
  (z5:PySem.W.nsIn K mainGlobals "min"=some none)
  (z6:PySem.W.nsIn K mainGlobals "max"=some none)
  (z7:PySem.W.nsIn K mainGlobals "sorted"=some none)
  (z8:PySem.W.nsIn K mainGlobals "isinstance"=some none)
  (z9:PySem.W.nsIn K mainGlobals "int"=some none)
  (t1:PySem.W.nsIn K mainGlobals "bool"=some none)
  (v7:PySem.W.nsIn K mainGlobals "str"=some none)
  (p8:PySem.W.nsIn K mainGlobals "tuple"=some none)
  (q6:PySem.W.nsIn K mainGlobals "all"=some none)
  (q1:PySem.W.nsIn K mainGlobals "any"=some none)
  (t3:PySem.W.nsIn K mainGlobals "repr"=some none)
  (r7:PySem.W.nsIn K mainGlobals "zip"=some none)
  (o9:PySem.W.nsIn K mainGlobals "enumerate"=some none)
  (s4:PySem.W.nsIn K mainGlobals "reversed"=some none)
  (u3:PySem.W.nsIn K mainGlobals "sum"=some none)
  (q7:PySem.W.nsIn K mainGlobals "set"=some none)
  (n5:PySem.W.nsIn K mainGlobals "LAST_DAY"=some (some (.int 1000000 l3)))
  (k0:PySem.W.nsIn K mainGlobals "MOST_NIGHTS"=some (some (.int 14 h7)))
  (t5:PySem.W.nsIn K mainGlobals "MOST_COINS"=some (some (.int 1000000000000 m0)))
  (p0:PySem.W.nsIn K mainGlobals "MOST_RULES"=some (some (.int 24 m9)))
  (q4:PySem.W.nsIn K mainGlobals "MOST_RULES_APART"=some (some (.int 12 n7)))
  (aU:PySem.W.nsIn K mainGlobals "USUAL"=some (some (.ref dU)))
  (lU:K.lookup dU=some ⟨.type "dict",none,.dict #[⟨m1,.str "price" v6,.none⟩,⟨m2,.str "come" u9,.bool true⟩,⟨o8,.str "go" r4,.bool true⟩,⟨l7,.str "least" u5,.int 1 u1⟩,⟨n3,.str "most" w7,.int 14 w2⟩,⟨n9,.str "deal" r1,.none⟩,⟨m7,.str "fee" v2,.int 0 n0⟩] nU,#[]⟩)
  (v8:m1=hashStr w "price")
  (p1:m2=hashStr w "come")
  (w1:o8=hashStr w "go")
  (u6:l7=hashStr w "least")
  (x2:n3=hashStr w "most")
  (u2:n9=hashStr w "deal")
  (p2:m7=hashStr w "fee")
  (hhd:PySem.W.codeHdIn K cC yf=true)
  (q2:(dU == sysModules)=false):
  ∃fd:FuncData,(∀(s:Shared) (v:Value),BindsTo s fd ⟨[v],[]⟩ [("_law_script",v)])/\∀base:Heap,K.In base->base.Ns mainGlobals mg->base.BuiltinsAt mg yf->yE l.prog w K mg base CX0 13 fa fd ["_law_script"] (oF K):=by
 have e:=u0.symm.trans (zN0 X G v9);cases e;have nb:NbT mg:=⟨zL9 X G z1,zL9 X G z2,zL9 X G z3,zL9 X G z4,zL9 X G z5,zL9 X G z6,zL9 X G z7,zL9 X G z8,zL9 X G z9,zL9 X G t1,zL9 X G v7,zL9 X G p8,zL9 X G q6,zL9 X G q1,zL9 X G t3,zL9 X G r7,zL9 X G o9,zL9 X G s4,zL9 X G u3⟩;have f3:mg "set"=none:=zL9 X G q7;have H:mg "cheapest_first"=some (.ref j1):=zN0 X G t7;have I:=qz (st:=yt) o5 o1 n4;have E:=I.binds (ps:=["prices","places"]) λ_ _ _ _ _ _=>us2 λ_ _=>rfl;obtain⟨_,_,D,b1,b2⟩:=a9;have g3:=qz (st:=uY) q0 s0 q5;have v1:=g3.binds (ps:=["_law_script"]) λ_ _ _ _ _ _=>us1 λ_=>rfl;obtain⟨_,t,x⟩:=i1;obtain⟨_,r,y⟩:=j4;obtain⟨_,j,i⟩:=g1;obtain⟨_,e1,d7⟩:=e6;obtain⟨_,g7,g4⟩:=g0;obtain⟨_,k2,l2⟩:=k1;obtain⟨_,e9,e5⟩:=d4;obtain⟨_,h3,f1⟩:=f9;obtain⟨_,f7,g6⟩:=f4;obtain⟨_,h9,i6⟩:=i2;obtain⟨_,a7,d8⟩:=d6;obtain⟨_,a5,d9⟩:=e4;refine⟨PySem.W.fnOf "law" "law" (zJ uY) (zw uY) (zf uY) .none j9 j6 j5 j8 f6 j7,λs v=>.of_eq rfl,λbase KX _ hbi=>?_⟩;have i9:=yI (P:=l.prog) (w:=w) (base:=base) z (zN0 X G f8) t x;have k4:=yI (P:=l.prog) (w:=w) (base:=base) M (zN0 X G i5) t x;have p4:=yI (P:=l.prog) (w:=w) (base:=base) d5 (zN0 X G o2) t x;have j2:=yI (P:=l.prog) (w:=w) (base:=base) A (zN0 X G f2) t x;have k3:=yI (P:=l.prog) (w:=w) (base:=base) L (zN0 X G j3) t x;have k8:=yI (P:=l.prog) (w:=w) (base:=base) O (zN0 X G h6) t x;have m4:=yI (P:=l.prog) (w:=w) (base:=base) a6 (zN0 X G k7) t x;have u4:=bZ (P:=l.prog) (w:=w) (base:=base) b7 nb;have h8:=ma C u4;have n1:=dF (P:=l.prog) (w:=w) (base:=base) c6 nb;have p3:=ic e7 ⟨l3,zN0 X G n5⟩ h8;have w5:=oy T (gB B n1 p3);have x3:=pJ c0 ⟨m0,zN0 X G t5⟩ h8;have p9:=nX c8 ⟨h7,zN0 X G k0⟩ n1 h8;have r2:=mG c7 nb w5 (oT b6 nb ⟨h7,zN0 X G k0⟩ h8 x3 p9);have r6:=mK c3 r2 (dD (cs:=⟨a,f,Q,b,c,d,q⟩) j0 i9 k4 p4 j2 k3 k8 m4);have q9:=fo V nb ⟨m9,zN0 X G p0⟩ r6;have cB:Cls K CB:=⟨w6,v0,q3,s8⟩;have l9:=dZ (bE (st:=yW) h4 h0 f5) cB l0 q9;have d2:mg "Book"=some (.ref CB):=zN0 X G t2;have m8:Mk K CB k:=⟨s9,d3,e8,u8⟩;have k5:vk l.prog w K mg base "Book" 9 [] (uk CB ⟨a,f,Q,b,c,d,q⟩):=⟨CB,k,_,_,_,d2,m8,jI lT,.nil,l9⟩;have x4:vk l.prog w K mg base "Book" 9 [.non] (uk CB ⟨a,f,Q,b,c,d,q⟩):=⟨CB,k,_,_,_,d2,m8,jK lT,.cons rfl .nil,l9⟩;have OW:∀u∈words,yQ l.prog w K mg base ((⟨a,f,Q,b,c,d,q⟩:Cs).of u) "word" 1 (qE ((⟨a,f,Q,b,c,d,q⟩:Cs).of u) u):=bT (yG z e1 d7 .o rfl) (yG M g7 g4 .o rfl) (yG d5 k2 l2 .o rfl) (yG A e9 e5 .o rfl) (yG L h3 f1 .o rfl) (yG O f7 g6 .o rfl) (yG a6 h9 i6 .o rfl);have OT:∀u∈words,yQ l.prog w K mg base ((⟨a,f,Q,b,c,d,q⟩:Cs).of u) "told" 2 (lj ((⟨a,f,Q,b,c,d,q⟩:Cs).of u) u):=bT (yK z r y (OW _ (by simp[words]))) (yK M r y (OW _ (by simp[words]))) (yK d5 r y (OW _ (by simp[words]))) (yK A r y (OW _ (by simp[words]))) (yK L r y (OW _ (by simp[words]))) (yK O r y (OW _ (by simp[words]))) (yK a6 r y (OW _ (by simp[words])));have DU:kl K w dU tbU:=⟨_,nU,lU,.cons ⟨v8,⟨_,rfl⟩,rfl⟩ (.cons ⟨p1,⟨_,rfl⟩,rfl⟩ (.cons ⟨w1,⟨_,rfl⟩,rfl⟩ (.cons ⟨u6,⟨_,rfl⟩,⟨_,rfl⟩⟩ (.cons ⟨x2,⟨_,rfl⟩,⟨_,rfl⟩⟩ (.cons ⟨u2,⟨_,rfl⟩,rfl⟩ (.cons ⟨p2,⟨_,rfl⟩,⟨_,rfl⟩⟩ (.nil))))))),by decide +kernel⟩;have CU:=iH (P:=l.prog) (base:=base) g5 (zN0 X G aU) DU;have v3:∀u∈words,yQ l.prog w K mg base ((⟨a,f,Q,b,c,d,q⟩:Cs).of u) "tells" 1 (sr ((⟨a,f,Q,b,c,d,q⟩:Cs).of u)):=bT (yj z j i) (yj M j i) (yj d5 j i) (yj A j i) (yj L j i) (yj O j i) (yj a6 j i);have OC:∀u∈words,Cls K ((⟨a,f,Q,b,c,d,q⟩:Cs).of u)/\yq K ((⟨a,f,Q,b,c,d,q⟩:Cs).of u) "worth":=bT (⟨z.cl,z.nw⟩) (⟨M.cl,M.nw⟩) (⟨d5.cl,d5.nw⟩) (⟨A.cl,A.nw⟩) (⟨L.cl,L.nw⟩) (⟨O.cl,O.nw⟩) (⟨a6.cl,a6.nw⟩);have i7:=mF cB l0 ⟨c4,c2,a5.kp⟩ a5 d9 nb CU OW v3 OC;have MR:=mR cB l0 ⟨d0,c9,a7.kp⟩ a7 d8 OT;have CB:=jS (P:=l.prog) (w:=w) (base:=base) Z;have CD:Cal l.prog w K mg base "_law_take" 1 xP:=gj b1 D.kp b2 (za1 D);have x1:=iN U CD;have CW:=iS a2 CD x1;have v4:=gc b3 nb CD CW;have CY:=zb8 b4 CD;have w4:=iI b0 nb CD;have CN:=mC (P:=l.prog) (w:=w) (base:=base) a8 nb;have CC:Cal l.prog w K mg base "cheapest_first" 3 qR:=js o5 o1 n4 H E nb hhd KX hbi;have s2:Cal l.prog w K mg base "marked" 4 sN:=mw e3 nb CC;have p5:=zm8 S i7;have o6:=jA (eH i8 nb i7 CN p5 s2);have k6:=fk i4 CN i7;have m3:=aK Y k6;have t4:=fR i0 k6 o6;have w3:=za2 R m3 o6;have r3:=cU i3 k5 MR;have s6:=zu6 (P:=l.prog) (w:=w) (base:=base) c1 nb;have s7:=zo2 h1 nb f3 ⟨l3,zN0 X G n5⟩ s6;have l4:=aG g8 nb ⟨h7,zN0 X G k0⟩ ⟨n7,zN0 X G q4⟩ MR s7 w3;have w8:=bx (P:=l.prog) (w:=w) (base:=base) e0 nb;have t8:=bo (P:=l.prog) (w:=w) (base:=base) c5 nb;have x0:=cy h5 w8 t8;have u7:=zp7 a0 x0;have w0:=jr g9 nb u7 MR;have s3:=hG (P:=l.prog) (w:=w) (base:=base) g2 nb f3;obtain⟨_,DN⟩:∃n,sT K w dU tbU n:=by
  obtain⟨es,n,h⟩:=DU;exact⟨n,es,h⟩
 have l1:=aN e2 (zN0 X G aU) DN q2 s3 MR i7;have r8:=cA f0 nb l1 k5 MR;have q8:=zt9 F k6 m3 t4;have p7:=cY a1 nb r8 l1 l4 q8 w4 r3 w0;exact zr8 g3 nb CB CD CY v4 k5 p7 l1 l4
theorem walk {l:PySem.W.OpenLaw}{q:Program}{loose:List Str}{y:(Str->Option Value)->Heap->Prop}{g:World->Heap->Prop}{d:DefRec}{K:Params->PySem.W.Frag}{c:Addr}(hn:l.most=some 63)(hdf:d.params.defaults=[])
  (m:∀(w:World) (h:Heap),g w h->(K w.params).In h) (e:∀(w:World) (h:Heap),g w h->h.get? yf=some (PySem.W.tabObj #[]))
  (i:∀w:World,(K w.params).lookup yf=none) (b:∀w:World,∃o vs,(K w.params).lookup c=some o/\o.cls=.type "code"/\o.data=.fields vs/\vs[11]?=some (.ref yf))
  (F:∀(w:World) (mg:Str->Option Value) (j:Addr) (h:Heap),(K w.params).In h->h.Ns mainGlobals mg->mg d.name=some (.ref j)->
   ∃fd:FuncData,(∀(s:Shared) (u:Value),BindsTo s fd ⟨[u],[]⟩ [("_law_script",u)])/\∀base:Heap,(K w.params).In base->base.Ns mainGlobals mg->base.BuiltinsAt mg yf->yE l.prog w (K w.params) mg base CX0 13 j fd ["_law_script"] (oF (K w.params))):
  PySem.W.WalkO q loose y g l.row.toRowW d [] (λf vs=>PySem.call f vs):=
 L2.eV (n:=63) (k:=13) (x:="_law_script") (CX:=λ_=>CX0) (sp:=λw=>oF (K w.params)) hn (by decide) hdf ⟨rfl,by decide,by decide,rfl⟩ m e i b F (λ_ H a ns p _ t v=>⟨a,ns,rfl,v,p,⟨#[],t,trivial,λpos cv r=>by cases r⟩,λ_=>rfl⟩) λ_ _ _ _ _ z=>z
end K74
namespace PySem.W.Fast
def tw11564338355207279643:=Nat
def tw16981914607968237120:=Nat
def tw17803303913865695568:=Nat
def tw4373274386486742121:=Nat
def tw17242926067579057490:=Nat
def tw8694458475252945576:=Nat
def tw8488097953448539797:=Nat
def tw8556296753042821952:=Nat
def tw7713127159630734295:=Nat
def tw5135907998711089637:=Nat
def tw2779017507239918857:=Nat
def tw3087804179050930877:=Nat
def tw5195961428103201118:=Nat
def tw17210912868059532701:=Nat
def tw8100590810913315502:=Nat
def tw9328998192793154654:=Nat
def tw2139446536869185024:=Nat
def tw16941716316857737139:=Nat
def tw2228271939273212336:=Nat
def tw17894578295483643374:=Nat
def tw6976856429947664626:=Nat
def tw9947918060158825267:=Nat
def tw13924512636467252256:=Nat
def tw15250148612887375879:=Nat
def tw4620800576586000866:=Nat
def tw16240392761365293546:=Nat
def tw3539977110395463175:=Nat
def tw15927983474294485908:=Nat
def tw10896600460982958273:=Nat
def tw14322169413555029257:=Nat
def tw12864889388157883039:=Nat
def tw4544039658202278863:=Nat
def tw6163931860352153308:=Nat
def tw7278789831702092869:=Nat
def tw14336762737567115083:=Nat
def tw18079123004210423994:=Nat
def tw5684452792591553178:=Nat
def tw4295090067647582094:=Nat
def tw2562721931144047927:=Nat
def tw5170742953146605254:=Nat
def tw12462947719877930019:=Nat
def tw1960457672688632995:=Nat
def tw394837947134500860:=Nat
def tw10891138409919600562:=Nat
def tw2897731596795015954:=Nat
def tw2223918447984154033:=Nat
def tw9980624464515732830:=Nat
def tw15556395574243658442:=Nat
def tw18140107997727776800:=Nat
def tw5307713053766399865:=Nat
def tw7887574125898773855:=Nat
def tw13004686052629435788:=Nat
def tw16934389882234089746:=Nat
def tw13975479667443015964:=Nat
def tw3484303256337303757:=Nat
def tw1980219099485927515:=Nat
def tw10684874234714092862:=Nat
def tw17235477709157460529:=Nat
def tw6210656528323714661:=Nat
def tw11061131206092876456:=Nat
def tw117716000158297259:=Nat
def tw5025355003213395694:=Nat
def tw1527270425775377883:=Nat
def tw15056376127802736173:=Nat
def tw10835566160359586678:=Nat
def tw4063059635530551908:=Nat
def tw1109408677385266702:=Nat
def tw1563939566386541377:=Nat
def tw16110682062355553781:=Nat
def tw14279299622783806239:=Nat
def tw16520750198004440615:=Nat
def tw15045571657642134396:=Nat
def tw2099515114218185255:=Nat
def tw16118468379778911237:=Nat
def tw13271307993685385807:=Nat
def tw1908872804742093769:=Nat
def tw84979191495649872:=Nat
def tw13472108356570521388:=Nat
def tw14501039593841248256:=Nat
def tw2413945297947958125:=Nat
def tw15574786302937524763:=Nat
def tw7117818653800178173:=Nat
def tw1917655012452323346:=Nat
def tw17017972325798667016:=Nat
def tw9709051732015732149:=Nat
def tw5809202165120584584:=Nat
def tw3228314856772868515:=Nat
def tw2514774400608470706:=Nat
def tw8896108145163126890:=Nat
def tw3088979852690707912:=Nat
def tw11222881583788139787:=Nat
def tw7455949171181170222:=Nat
def tw1120735993066549306:=Nat
def tw18429447454582666519:=Nat
def tw11819517788934262940:=Nat
def tw11929167221199167496:=Nat
def tw8452924253704047297:=Nat
def tw12622788735948025584:=Nat
def tw243852045433633951:=Nat
def tw319685577311305170:=Nat
def tw9900685337426047901:=Nat
def tw8460783270668687816:=Nat
def tw1824132009686677880:=Nat
def tw7843616587449492033:=Nat
def tw13554235256999082693:=Nat
def tw17411027553162552367:=Nat
def tw8926253147884950545:=Nat
def tw5010187315364437962:=Nat
def tw2344502134553562921:=Nat
def tw10918721428774087343:=Nat
def tw9919472700289077368:=Nat
def tw15527800196411480363:=Nat
def tw14551654007112081750:=Nat
def tw1568990146600416410:=Nat
def tw10265247387072038146:=Nat
def tw11819786417153766194:=Nat
def tw4901196421161601410:=Nat
def tw3205589341454851102:=Nat
def tw14819369251858068625:=Nat
def tw15567989483394238769:=Nat
def tw15746887943502594319:=Nat
def tw4921140636786046928:=Nat
def tw15833677390789169616:=Nat
def tw7874290223287918973:=Nat
def tw8242456648061987757:=Nat
def tw2465185044382725312:=Nat
def tw7530301982752078452:=Nat
def tw15087997213436334608:=Nat
def tw7980711146999707060:=Nat
def tw11313440407642020818:=Nat
def tw16212582480539705536:=Nat
def tw11581857721994149915:=Nat
def tw18323702517793711068:=Nat
def tw14353346294123357264:=Nat
def tw3833674561472851742:=Nat
def tw10062180956776523350:=Nat
def tw2450370037005845518:=Nat
def tw6649494272410366999:=Nat
def tw11037492144127242519:=Nat
def tw7658905777373357462:=Nat
def tw11453633728430947252:=Nat
def tw13085132285992040880:=Nat
def tw13999032932508213043:=Nat
def tw4829422202251971397:=Nat
def tw5666320438120748936:=Nat
def tw12978423086699745586:=Nat
def tw7182690032001414031:=Nat
def tw17771538692516408742:=Nat
def tw3328320469208705904:=Nat
def tw9189336278371195587:=Nat
def tw18182052916158625728:=Nat
def tw14116919140307134961:=Nat
def tw4171464727263259233:=Nat
def tw4693876697802827850:=Nat
def tw10809657133618301566:=Nat
def tw4612163523606016442:=Nat
def tw5352705394947147673:=Nat
def tw12660267356009278354:=Nat
def tw7096767508194568578:=Nat
def tw3041240073851200245:=Nat
def tw9612758329623413833:=Nat
def tw10112942606440785222:=Nat
def tw15334715256316035812:=Nat
def tw3878742274398099569:=Nat
def tw14399752655927898712:=Nat
def tw7315330350633124459:=Nat
def tw5346212021483153579:=Nat
def tw9984287764603163826:=Nat
def tw11776475053878583393:=Nat
def tw4289763962475056660:=Nat
def tw5825120873312961254:=Nat
def tw5540407160573884648:=Nat
def tw15354217875522260447:=Nat
def tw12212977841899025289:=Nat
def tw973568280684195510:=Nat
def tw9159126206616828778:=Nat
def tw10800253067937434724:=Nat
def tw11713961696737915935:=Nat
def tw6527106855689892664:=Nat
def tw9956674500624857774:=Nat
def tw13044147925974828364:=Nat
def tw410038790855622510:=Nat
def tw18358530760779580410:=Nat
def tw118383412693419748:=Nat
def tw1212882846058606557:=Nat
def tw2746993449271872192:=Nat
def tw8075778347975323020:=Nat
def tw14784741086737848580:=Nat
def tw13661917977195023429:=Nat
def tw15117016130252792359:=Nat
def tw1008991498960018108:=Nat
def tw9363536701743722301:=Nat
def tw8819753083154013977:=Nat
def tw17652822188555672022:=Nat
def tw10550342701277059779:=Nat
def tw2719898165006471811:=Nat
def tw15503835529020176844:=Nat
def tw13758969108644311733:=Nat
def tw2986728871864357608:=Nat
def tw5217924419808299275:=Nat
def tw7344146598685629184:=Nat
def tw5689272590312282824:=Nat
def tw10877688331796571804:=Nat
def tw6040490471042298101:=Nat
def tw1267551357411263613:=Nat
def tw13446189711684625181:=Nat
def tw6263189451319795219:=Nat
def tw11318594368600016291:=Nat
def tw10907863859761886114:=Nat
def tw7000368654359600800:=Nat
def tw14216638511942416638:=Nat
def tw8678479064626720032:=Nat
def tw13445300542951531355:=Nat
def tw15867671658006728097:=Nat
def tw9144174302695817181:=Nat
def tw2969016339375623596:=Nat
def tw14394473118947700959:=Nat
def tw12381793466917352588:=Nat
def tw16998459471376131535:=Nat
def tw16074596335068138984:=Nat
def tw15678426144350470130:=Nat
def tw9632391958034245487:=Nat
def tw2425447800400594978:=Nat
def tw14357692992291503826:=Nat
def tw11611143105367466361:=Nat
def tw15198591420256068212:=Nat
def tw16420267947297470187:=Nat
def tw10515702141231823868:=Nat
def tw32308393070405173:=Nat
def tw1342558443156101546:=Nat
def tw7541002191979560198:=Nat
def tw13368672430170936951:=Nat
def tw5971831984439038492:=Nat
def tw16297976209614006043:=Nat
def tw16137612500106881733:=Nat
def tw10982644580947058231:=Nat
def tw18237179477519348999:=Nat
def tw12450848508529622285:=Nat
def tw16847344258005020321:=Nat
def tw2328350695305874864:=Nat
def tw8089342036364994545:=Nat
def tw17691709903561126804:=Nat
def tw9802756157349752182:=Nat
def tw12498409553947970934:=Nat
def tw16860893128448182585:=Nat
def tw14206791735820438479:=Nat
def tw3813069024212087036:=Nat
def tw16948395008891678638:=Nat
def tw9944727475586003913:=Nat
def tw7837040886338080677:=Nat
def tw6627930270409890104:=Nat
def tw7734807441575079457:=Nat
def tw8914318236274351668:=Nat
def tw1805816363803622312:=Nat
def tw4912308291053183593:=Nat
def tw3548245089439624896:=Nat
def tw9176282215122146720:=Nat
def tw12237244241595258950:=Nat
def tw7034367507426079836:=Nat
def tw4810731106340820812:=Nat
def tw1166663617294223604:=Nat
end PySem.W.Fast
open PySem PySem.W PyProof.Rows
set_option maxRecDepth 100000 in
theorem PySem.Challenge.cw_stayprice_k74_whole_tidied_books_are_ali_holds : PySem.Challenge.rw_stayprice_k74_whole_tidied_books_are_ali.Holds := by
 w_on;o_law;k_head;(case hw=>w_witness2)
 k_fill
 refine K74.walk (l:=PySem.Challenge.rw_stayprice_k74_whole_tidied_books_are_ali) (c:=(476:Nat)) rfl rfl (λw h Y=>PySem.W.km_in_of Y) (λw h Y=>PySem.W.km_tabs_of Y _ (zK3.mpr rfl)) ?hno ?htab ?hF
 case hno=>intro w;kernel_rfl
 case htab=>intro w;exact⟨_,_,by k_is,rfl,rfl,rfl⟩
 case hF=>
  intro w mg d h a G b
  refine' K74.all_mk a G b (K74.mkG a G ?_ (K74.mkF ?_ ?_ ?_)) (K74.mkG a G ?_ (K74.mkF ?_ ?_ ?_)) (K74.mkG a G ?_ (K74.mkF ?_ ?_ ?_)) (K74.mkG a G ?_ (K74.mkF ?_ ?_ ?_)) (K74.mkG a G ?_ (K74.mkF ?_ ?_ ?_)) (K74.mkG a G ?_ (K74.mkF ?_ ?_ ?_)) (K74.mkG a G ?_ (K74.mkF ?_ ?_ ?_)) (K74.mkG a G ?_ (K74.mkF ?_ ?_ ?_)) (K74.mkG a G ?_ (K74.mkF ?_ ?_ ?_)) (K74.mkG a G ?_ (K74.mkF ?_ ?_ ?_)) (K74.mkG a G ?_ (K74.mkF ?_ ?_ ?_)) (K74.mkG a G ?_ (K74.mkF ?_ ?_ ?_)) (K74.mkG a G ?_ (K74.mkF ?_ ?_ ?_)) (K74.mkG a G ?_ (K74.mkF ?_ ?_ ?_)) (K74.mkG a G ?_ (K74.mkF ?_ ?_ ?_)) (K74.mkG a G ?_ (K74.mkF ?_ ?_ ?_)) (K74.mkG a G ?_ (K74.mkF ?_ ?_ ?_)) (K74.mkG a G ?_ (K74.mkF ?_ ?_ ?_)) (K74.mkG a G ?_ (K74.mkF ?_ ?_ ?_)) (K74.mkG a G ?_ (K74.mkF ?_ ?_ ?_)) (K74.mkG a G ?_ (K74.mkF ?_ ?_ ?_)) (K74.mkG a G ?_ (K74.mkF ?_ ?_ ?_)) (K74.mkG a G ?_ (K74.mkF ?_ ?_ ?_)) (K74.mkG a G ?_ (K74.mkF ?_ ?_ ?_)) ?_ ?_ ?_ ?_ (K74.mkG a G ?_ (K74.mkF ?_ ?_ ?_)) (K74.mkG a G ?_ (K74.mkF ?_ ?_ ?_)) (K74.mkG a G ?_ (K74.mkF ?_ ?_ ?_)) (K74.mkG a G ?_ (K74.mkF ?_ ?_ ?_)) (K74.mkG a G ?_ (K74.mkF ?_ ?_ ?_)) (K74.mkG a G ?_ (K74.mkF ?_ ?_ ?_)) (K74.mkG a G ?_ (K74.mkF ?_ ?_ ?_)) (K74.mkG a G ?_ (K74.mkF ?_ ?_ ?_)) (K74.mkG a G ?_ (K74.mkF ?_ ?_ ?_)) (K74.mkG a G ?_ (K74.mkF ?_ ?_ ?_)) (K74.mkG a G ?_ (K74.mkF ?_ ?_ ?_)) (K74.mkG a G ?_ (K74.mkF ?_ ?_ ?_)) (K74.mkG a G ?_ (K74.mkF ?_ ?_ ?_)) (K74.mkG a G ?_ (K74.mkF ?_ ?_ ?_)) (K74.mkG a G ?_ (K74.mkF ?_ ?_ ?_)) (K74.mkG a G ?_ (K74.mkF ?_ ?_ ?_)) (K74.mkG a G ?_ (K74.mkF ?_ ?_ ?_)) (K74.mkG a G ?_ (K74.mkF ?_ ?_ ?_)) (K74.mkG a G ?_ (K74.mkF ?_ ?_ ?_)) ?_ ?_ ?_ ?_ ?_ ?_ ?_ ?_ ?_ ?_ ?_ (K74.mkR ?_ ?_ ?_ ?_ ?_ ?_ ?_ ?_ ?_ ?_ ?_ ?_ ?_ ?_ ?_ ?_ ?_ ?_ ?_ ?_) (K74.mkR ?_ ?_ ?_ ?_ ?_ ?_ ?_ ?_ ?_ ?_ ?_ ?_ ?_ ?_ ?_ ?_ ?_ ?_ ?_ ?_) (K74.mkR ?_ ?_ ?_ ?_ ?_ ?_ ?_ ?_ ?_ ?_ ?_ ?_ ?_ ?_ ?_ ?_ ?_ ?_ ?_ ?_) (K74.mkR ?_ ?_ ?_ ?_ ?_ ?_ ?_ ?_ ?_ ?_ ?_ ?_ ?_ ?_ ?_ ?_ ?_ ?_ ?_ ?_) (K74.mkR ?_ ?_ ?_ ?_ ?_ ?_ ?_ ?_ ?_ ?_ ?_ ?_ ?_ ?_ ?_ ?_ ?_ ?_ ?_ ?_) (K74.mkR ?_ ?_ ?_ ?_ ?_ ?_ ?_ ?_ ?_ ?_ ?_ ?_ ?_ ?_ ?_ ?_ ?_ ?_ ?_ ?_) (K74.mkR ?_ ?_ ?_ ?_ ?_ ?_ ?_ ?_ ?_ ?_ ?_ ?_ ?_ ?_ ?_ ?_ ?_ ?_ ?_ ?_) (K74.mkF ?_ ?_ ?_) (K74.mkF ?_ ?_ ?_) (K74.mkF ?_ ?_ ?_) (K74.mkF ?_ ?_ ?_) (K74.mkF ?_ ?_ ?_) (K74.mkF ?_ ?_ ?_) (K74.mkF ?_ ?_ ?_) (K74.mkF ?_ ?_ ?_) (K74.mkF ?_ ?_ ?_) (K74.mkF ?_ ?_ ?_) ?_ ?_ ?_ ?_ ?_ ?_ ?_ ?_ ?_ (K74.mkF ?_ ?_ ?_) ?_ ?_ (K74.mkF ?_ ?_ ?_) ?_ ?_ ?_ ?_ ?_ ?_ ?_ ?_ ?_ ?_ ?_ ?_ ?_ ?_ ?_ ?_ ?_ ?_ ?_ ?_ ?_ ?_ ?_ ?_ ?_ ?_ ?_ ?_ ?_ ?_ ?_ ?_ ?_ ?_ ?_ ?_ ?_ ?_ ?_ ?_ ?_ ?_ ?_
  all_goals try (show _=_;first|k_is|kernel_rfl)
