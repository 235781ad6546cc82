import PyProof.Rows.All
import Wide.All
import OpenK.AllK
import Wide.FinOn
import Lean
import PyProof.EqAt
import PyProof.EqKinds
import PyProof.TupleCall
import PyProof.AttrMissHeap
import PyProof.DictRoadsH
import KE.KDictOf
import PyProof.P3In
import PySem.Challenge.RW_stayprice_k64_whole_off_and_why
set_option maxHeartbeats 0
set_option linter.all false
set_option Elab.async false
def zX6:=@PySem.wpAny_bind
def zX7:=@PySem.Heap.get?_push_of_some
def zX8:=@List.length_map
def zX9:=@Nat.lt_of_lt_of_le
def zY0:=@List.getElem?_eq_some_iff
def zY1:=@List.getElem?_eq_getElem
def zY2:=@List.mem_cons
def zY3:=@Nat.le_refl
def zY4:=@PySem.wpAny_pure
def zY5:=@List.mem_cons_of_mem
def zY6:=@PySem.Heap.lt_size
def zY7:=@List.getElem?_map
def zY8:=@Nat.le_trans
def zY9:=@List.mem_cons_self
def zZ0:=@PySem.Heap.get?_push_size
def zZ1:=@List.mem_singleton
def zZ2:=@PySem.Heap.get?_update_other
def zZ3:=@Option.map_eq_some_iff
def zZ4:=@Nat.le_add_right
def zZ5:=@List.size_toArray
def zZ6:=@Nat.zero_le
def zZ7:=@Nat.le_of_eq
def zZ8:=@List.not_mem_nil
def zZ9:=@Nat.lt_of_le_of_lt
def z00:=@List.length_cons
def z01:=@Nat.ne_of_lt
def z02:=@List.map_cons
def z03:=@Bool.false_ne_true
def z04:=@List.length_append
def z05:=@List.mem_append
def z06:=@decide_eq_false
def z07:=@Bool.and_eq_true
def z08:=@List.getD_eq_getElem?_getD
def z09:=@Option.some.inj
def z21:=@PySem.W.mg_none_of
def z22:=@List.getElem?_append_left
def z23:=@Ne.symm
def z24:=@List.mem_of_getElem?
def z25:=@List.mem_append_right
def z26:=@decide_eq_true
def z27:=@Nat.add_lt_add_left
def z28:=@List.length_set
def z29:=@List.nil_append
def z30:=@Nat.le_of_lt
def z31:=@PySem.wpAny_mono
def z32:=@PyProof.Rows.callWith_type1
def z33:=@or_false
def z34:=@Bool.false_eq_true
def z35:=@Nat.le_of_ble_eq_true
def z36:=@Nat.lt_irrefl
def z37:=@PySem.W.mg_of
def z38:=@List.getElem?_append_right
def z39:=@List.mem_filter
def z40:=@List.take_length
def z41:=@PySem.wpAny_holding
def z42:=@List.lookup_cons
def z43:=@List.take_add_one
def z44:=@PySem.sizeLine_eq
def z45:=@List.append_nil
def z46:=@List.length_take
def z47:=@List.mem_map
def z48:=@PySem.mem_of_lookup
def z49:=@PySem.Heap.get?_update_self
def z50:=@decide_eq_true_eq
def z51:=@PySem.wpAny_seqItems
def z52:=@List.mem_append_left
def z53:=@List.getElem?_set_ne
def z54:=@List.map_map
def z55:=@List.map_append
def z56:=@Nat.lt_succ_self
def z57:=@PySem.Heap.size_push
def z58:=@PySem.W.kia_one
def z59:=@List.find?_cons
def z60:=@Nat.lt_add_of_pos_right
def z61:=@List.getElem?_replicate
def z62:=@Array.getElem?_eq_some_iff
def z63:=@PySem.wpAny_field
def z64:=@PySem.F.plain_min_loop
def z65:=@PySem.wpAny_truthy_bool
def z66:=@of_decide_eq_true
def z67:=@PySem.F.plain_extend_loop
def z68:=@PySem.F.slot_zip_next
def z69:=@List.length_filter_le
def z70:=@Nat.ne_of_gt
def z71:=@PySem.wpAny_Call_Name_kw
def z72:=@Nat.le_of_not_lt
def z73:=@PySem.Around.under_plainId
def z74:=@PySem.wpAny_pyIter_list
def z75:=@Nat.le_of_lt_succ
def z76:=@PySem.wpAny_loadPart_at
def z77:=@Nat.le_antisymm
def z78:=@PySem.wpAny_updateSeq
def z79:=@beq_eq_false_iff_ne
def z80:=@List.length_reverse
def z81:=@List.getElem?_set_self
def z82:=@Nat.le_succ
def z83:=@PySem.wpAny_nextOf_list_item
def z84:=@List.any_cons
def z85:=@PySem.plainId_quiet
def z86:=@PySem.F.excBase_ValueError
def z87:=@if_false
def z88:=@List.drop_eq_getElem_cons
def z89:=@PyProof.Rows.get?_update_seq
def z90:=@Bool.and_eq_true_iff
def z91:=@decide_eq_false_iff_not
def z92:=@List.getElem_mem
def z93:=@List.any_eq_true
def z94:=@PySem.wpAny_letGo
def z95:=@PySem.W.callWith_K
def z96:=@Nat.lt_or_ge
def z97:=@PySem.Obj.data_mapFields
def z98:=@PySem.wpAny_passesOwn
def z99:=@Bool.eq_iff_iff
def ya0:=@PySem.codeAny_builtin
def ya1:=@PySem.builtinLookup_eq_fast
def ya2:=@PySem.Obj.isFreed_of_fields
def ya3:=@Bool.not_eq_true'
def ya4:=@List.mem_of_find?_eq_some
def ya5:=@List.all_eq_true
def ya6:=@List.mem_reverse
def ya7:=@Int.eq_ofNat_of_zero_le
def ya8:=@if_true
def ya9:=@Bool.or_eq_true
def yb0:=@PySem.wpAny_ite_split
def yb1:=@List.find?_eq_none
def yb2:=@List.take_of_length_le
def yb3:=@Nat.lt_succ_of_lt
def yb4:=@Bool.false_and
def yb5:=@PySem.codeAny_mono
def yb6:=@List.length_replicate
def yb7:=@List.getElem?_toArray
def yb8:=@List.getElem?_eq_none
def yb9:=@Nat.sub_self
def yc0:=@PySem.Heap.get?_none_of_le
def yc1:=@beq_iff_eq
def yc2:=@PySem.wpAny_call
def yc3:=@List.length_drop
def yc4:=@Bool.or_eq_false_iff
def yc5:=@List.drop_length
def yc6:=@List.filter_cons
def yc7:=@List.cons_append
def yc8:=@List.mem_of_mem_take
def yc9:=@PySem.wpAny_standAt
def yd0:=@Bool.or_false
def yd1:=@List.fst_mem_of_mem_zipIdx
def yd2:=@PySem.Heap.SameBut.update
def yd3:=@List.take_succ_cons
def yd4:=@PySem.wpAny_execs_nil
def yd5:=@List.forIn_cons
def yd6:=@Array.Perm.refl
def yd7:=@PySem.wpAny_specialOf
def yd8:=@PySem.F.slot_dict_getitem
def yd9:=@PySem.typeLookup_type
def ye0:=@List.length_nil
def ye1:=@PySem.PassesOwn.never
def ye2:=@Option.isSome_iff_exists
def ye3:=@Nat.succ_pos
def ye4:=@PySem.wpAny_setField_rec
def ye5:=@PySem.tupleKind_room_in1
def ye6:=@PySem.F.slot_list_getattribute
def ye7:=@PySem.Code.quiet_builtin
def ye8:=@Int.emod_lt_of_pos
def ye9:=@PySem.wpAny_tryCatch
def yf0:=@PySem.F.plainAttrs_list
def yf1:=@List.getElem?_cons_succ
def yf2:=@PySem.wpAny_callSpecial?_slot
def yf3:=@PySem.F.args_zip_next_1
def yf4:=@List.any_eq_false
def yf5:=@Int.toNat_natCast
def yf6:=@PySem.F.entry_zip_next
def yf7:=@PySem.F.entry_min_loop
def yf8:=@Int.le_refl
def yf9:=@PySem.strLen_append
def yg0:=@Bool.true_and
def yg1:=@Bool.false_or
def yg2:=@Nat.min_le_right
def yg3:=@PySem.wpAny_call_entry
def yg4:=@PySem.W.methodCall_KW
def yg5:=@List.set_append_right
def yg6:=@Bool.and_eq_false_iff
def yg7:=@List.nodup_cons
def yg8:=@PySem.wpAny_loadPart'
def yg9:=@Int.not_le
def yh0:=@Nat.zero_add
def yh1:=@PySem.wpAny_typeOf
def yh2:=@Option.map_some
def yh3:=@List.foldl_cons
def yh4:=@List.find?_some
def yh5:=@Int.emod_nonneg
def yh6:=@List.any_map
def yh7:=@List.filterMap_cons
def yh8:=@Array.length_toList
def yh9:=@PySem.W.plainGet_of
def yi0:=@List.forIn_nil
def yi1:=@Nat.mul_le_mul
def yi2:=@Int.natCast_nonneg
def yi3:=@List.forIn_toArray
def yi4:=@of_decide_eq_false
def yi5:=@List.all_cons
def yi6:=@List.map_take
section
variable {a b c d e f g A B C D E F G H I J K L:Nat}{p q r s t u v w P Q R S T U V W:Int}
theorem om0 (h:a<b):b-(a+1)<b-a:=by lia
theorem om5 (h:0=a-b)(i:b<=a):b=a:=by lia
theorem om6 (h:a+1=b-c):c<b:=by omega
theorem om7 (h:a+b=c-d):a=c-(d+b):=by omega
theorem om9 (h:(a:Int)<(b:Int)):a<b:=by omega
theorem zV7 :min a b+(b-a+c)=b+c:=by lia
theorem zW6 (h:a+64<b):a+1<b:=(Nat.lt_trans (z27 (by decide) a) h)
theorem zW2 (h:a<=1000):((min b a:Nat):Int)<=1000:=by lia
theorem gN (h:a<64):a<=16777216:=(z30 (Nat.lt_trans h (by decide:(64:Nat)<(16777216:Nat))))
theorem zU3 (h:p<=q)(i:r<=s):p+r<=s+q:=by lia
theorem zW1 (h:(a:Int)=(b:Int)):a=b:=by lia
theorem zP4 (h:a<=b+c)(i:b<=d+e):a<=d+(c+e):=by lia
theorem zN5 (h:a+64<b)(i:c<=60):a+1+min d c<b:=by lia
theorem zR8 (h:a<=b)(i:c<=b):max a c<=b:=by lia
theorem zw5 (h:a<=7):a+1<=8:=(zZ9 h (by decide:(7:Nat)<(8:Nat)))
theorem zw6 (h:a+b<=c)(i:d<=e+b)(j:e<=a):d<=c:=by lia
theorem zS9 (h:a+1+1<2):False:=by lia
theorem zx6 (h:2<=a)(i:a=b):0<b:=(zX9 (by decide:(0:Nat)<(2:Nat)) (zY8 h (zZ7 i)))
theorem jA (h:a+(b+c)<=d):a+c+b<=d:=by lia
theorem zz0 (h:a<b+1)(i:¬a=b):a<b:=by lia
theorem zK5 :a+(b+c)=a+c+b:=by lia
theorem zT8 (h:p<=q):p+(((q-p).toNat:Nat):Int)=q:=by omega
theorem zv2 (h:a+max b c<d):a+c<d:=by lia
theorem zN3 (h:a+b+c=d+b+e):a+c=d+e:=by lia
theorem zL0 (h:a+b=a+c):¬c<b:=by lia
theorem zM4 (h:0+a=b+1+c):c<a:=by lia
theorem zO7 (h:a+b=0+c):¬c<b:=by lia
theorem zN9 (h:a=b)(i:c=d):b+c=d+a:=by lia
theorem zt3 (h:a-b=0)(i:b<=a):b=a:=by omega
theorem zx4 (h:a-b=c+1):b<a:=by omega
theorem za9 (h:a-b=c+d):a-(b+d)=c:=by omega
theorem sX (h:a<b):b-1<b:=by lia
theorem zJ8 (h:a<=b):(a:Int)-(b:Int)<=0:=by lia
theorem zM9 (h:a=16777216)(i:b<=a):¬(b:Int)≥2^63:=by lia
theorem zM3 (h:a=16777216)(i:b<=a):b<=1099511627776:=(z30 (zZ9 i (zZ9 (zZ7 h) (by decide:(16777216:Nat)<(1099511627776:Nat)))))
theorem cc (h:a=16777216)(i:b=c)(j:b<=a):(c:Int)<2^63:=by lia
theorem zy8 (h:a+3*(b+c)+d<e):a+c+3*b+d<e:=by lia
theorem zr8 (h:a+16*(b+c)+200<d):a+c+16*b+200<d:=by lia
theorem zR2 (h:a=b)(i:b<=c):a+(c-a)=c:=by lia
theorem bI (h:a<2^63)(i:p<(b:Int))(j:b<=a):p<2^63:=by lia
theorem aX (h:(-(a:Int))<=p)(i:a<=b)(j:b<2^63):(-(2^63))<=p:=by lia
theorem zv7 (h:p<0):max 0 (min (p+q) q)=(((p+q).toNat:Nat):Int):=by lia
theorem zu7 :max 0 (min p (a:Int))=((min p.toNat a:Nat):Int):=by lia
theorem zs0 (h:a<2^63)(i:b=c)(j:b<=a):(c:Int)<2^63:=by lia
theorem zs8 (h:a+b<=c)(i:a=d)(j:b=e):d+e<=c:=by lia
theorem zs1 (h:a<=b)(i:¬a=b):a<=b-1:=by lia
theorem zy6 (h:a<1)(i:b<=a):b=0:=by lia
theorem zt8 (h:a<1):a=0:=by lia
theorem jM (h:a<=b+c+d):a<=b+(d+c):=by lia
theorem zw9 (h:a<b):b<=b-c+b-1-a+c:=by omega
theorem zt0 (h:a<b)(i:c<=a):c+b-1-a<b:=by omega
theorem zz2 (h:a-b<=c):a<=c+b:=by lia
theorem zu3 :¬(a<=b/\b<b):=by lia
theorem qx (h:a+1<=b+(0+1))(i:b<a+1):b=a:=by omega
theorem zu0 (h:a+b<=c+(d+b)):a<=c+d:=by lia
theorem zw7 :a<=a-b+(c+b):=by omega
theorem zv4 (h:a<b):0+b-1-c<b:=by omega
theorem aD (h:a<=b+(c-b))(i:b<=c):a<=c:=by omega
theorem zv5 (h:a<b):a<=b-1:=by omega
theorem zs5 (h:a>1):a-1<a:=by lia
theorem jJ (h:a<b)(i:b<=c)(j:d<=1+(b-1)):d<=c:=by lia
theorem zs6 (h:a<b+1)(i:c<a):a-1<b:=by lia
theorem zP9 (h:a<=1000):a<=16777216:=(z30 (zZ9 h (by decide:(1000:Nat)<(16777216:Nat))))
theorem zs3 (h:a=b)(i:a<=100):b<=16777216:=(z30 (zZ9 (zZ7 h.symm) (zZ9 i (by decide:(100:Nat)<(16777216:Nat)))))
theorem bE :a<a+5\/a+5<a:=(.inl (z60 (by decide)))
theorem zx9 :a+4<a\/a<a+4:=(.inr (z60 (by decide)))
theorem zb6 :a+4<a+5\/a+5<a+4:=(.inl (z27 (by decide) a))
theorem dI :a+1<a+5\/a+5<a+1:=(.inl (z27 (by decide) a))
theorem cn :a+1<a+4\/a+4<a+1:=(.inl (z27 (by decide) a))
theorem zz6 :a+4<a+1\/a+1<a+4:=(.inr (z27 (by decide) a))
theorem ak :a+2<a+5\/a+5<a+2:=(.inl (z27 (by decide) a))
theorem zz1 :a+2<a\/a<a+2:=(.inr (z60 (by decide)))
theorem cL :a+2<a+4\/a+4<a+2:=(.inl (z27 (by decide) a))
theorem zw8 :a+2<a+1\/a+1<a+2:=(.inr (z27 (by decide) a))
theorem zv3 :a+4<a+2\/a+2<a+4:=(.inr (z27 (by decide) a))
theorem bN :a+5<a+4\/a+4<a+5:=(.inr (z27 (by decide) a))
theorem zt6 :a+5<a+2\/a+2<a+5:=(.inr (z27 (by decide) a))
theorem zu9 :a+5<a+1\/a+1<a+5:=(.inr (z27 (by decide) a))
theorem zs2 :a+5<a\/a<a+5:=(.inr (z60 (by decide)))
theorem cz :a<a+4\/a+4<a:=(.inl (z60 (by decide)))
theorem zr9 :a<a+2\/a+2<a:=(.inl (z60 (by decide)))
theorem zv1 :a+1<a+2\/a+2<a+1:=(.inl (z27 (by decide) a))
theorem dn :a+3<a+5\/a+5<a+3:=(.inl (z27 (by decide) a))
theorem zy3 :a+3<a\/a<a+3:=(.inr (z60 (by decide)))
theorem zv0 :a+3<a+1\/a+1<a+3:=(.inr (z27 (by decide) a))
theorem zw0 :a+3<a+2\/a+2<a+3:=(.inr (z27 (by decide) a))
theorem zy1 (h:(-(2^62))<=p):(-(2^63))<=p:=by lia
theorem zs9 (h:p<2^62):p<2^63:=by lia
end
set_option maxRecDepth 100000
namespace L2
open PySem PySem.Spec PyProof.Rows
abbrev Key :=Sum Int Str
def rY :Key->Value->Bool
 |.inl k,v=>Value.isInt k v
 |.inr x,v=>Value.isStrOf x v
def zV2 (w:World):Key->Int
 |.inl k=>hashInt k
 |.inr x=>hashStr w x
theorem zN :∀{k:Key}{v:Value},rY k v=true->(∃i t,k=Sum.inl i/\v=Value.int i t)\/(∃x t,k=Sum.inr x/\v=Value.str x t)
 |.inl i,v,h=>by
  obtain⟨t,e⟩:=Value.isInt_shape (k:=i) (v:=v) h;exact .inl ⟨i,t,rfl,e⟩
 |.inr x,v,h=>by
  obtain⟨t,e⟩:=Value.isStrOf_shape (x:=x) (v:=v) h;exact .inr ⟨x,t,rfl,e⟩
theorem eM (i:Int)(t:Tok):rY (.inl i) (.int i t)=true:=by simp[rY,Value.isInt]
theorem iW (x:Str)(t:Tok):rY (.inr x) (.str x t)=true:=by simp[rY,Value.isStrOf]
theorem zF2 (a b:Int):decide ((Sum.inl a:Key)=Sum.inl b)=(a == b):=by
 by_cases e:a=b
 ·subst e;simp
 ·have h:¬(Sum.inl a:Key)=Sum.inl b:=λq=>e (Sum.inl.inj q);rw[z06 h];exact(z79.mpr e).symm
theorem zG1 (a b:Str):decide ((Sum.inr a:Key)=Sum.inr b)=decide (a=b):=by
 by_cases e:a=b
 ·subst e;simp
 ·have h:¬(Sum.inr a:Key)=Sum.inr b:=λq=>e (Sum.inr.inj q);rw[z06 h,z06 e]
theorem zG3 (a:Int)(b:Str):decide ((Sum.inl a:Key)=Sum.inr b)=false:=z06 (λq=>nomatch q)
theorem zI1 (a:Str)(b:Int):decide ((Sum.inr a:Key)=Sum.inl b)=false:=z06 (λq=>nomatch q)
def zJ (prog:Program)(w:World):PySem.KeyKind prog w Key where
 is:=rY
 hash:=zV2 w
 inj:=λv a b ha hb=>by
  rcases zN ha with⟨i,t,rfl,rfl⟩|⟨x,t,rfl,rfl⟩
  ·rcases zN hb with⟨j,u,rfl,e⟩|⟨y,u,rfl,e⟩
   ·injection e with e1 _;rw[e1]
   ·exact nomatch e
  ·rcases zN hb with⟨j,u,rfl,e⟩|⟨y,u,rfl,e⟩
   ·exact nomatch e
   ·injection e with e1 _;rw[e1]
 byValue:=λk v h=>by
  rcases zN h with⟨i,t,rfl,rfl⟩|⟨x,t,rfl,rfl⟩<;>rfl
 pyHash:=λc h=>by
  rcases zN c with⟨i,t,rfl,rfl⟩|⟨x,t,rfl,rfl⟩
  ·exact wpAny_pyHash_int h
  ·exact wpAny_pyHash_str h
 eqBool:=λd c h=>by
  rcases zN d with⟨i,t,rfl,rfl⟩|⟨x,t,rfl,rfl⟩
  ·rcases zN c with⟨j,u,rfl,rfl⟩|⟨y,u,rfl,rfl⟩
   ·rw[zF2]at h;exact wpAny_eqBool_int h
   ·rw[zG3]at h;exact SeqAt.EqAt.int_str i t y u _ _ _ _ h
  ·rcases zN c with⟨j,u,rfl,rfl⟩|⟨y,u,rfl,rfl⟩
   ·rw[zI1]at h;exact SeqAt.EqAt.str_int x t j u _ _ _ _ h
   ·rw[zG1]at h;exact wpAny_eqBool_str h
 «strs»:=λk x t v h=>by
  rcases zN h with⟨i,u,rfl,e⟩|⟨y,u,rfl,e⟩
  ·exact nomatch e
  ·injection e with e1 _;subst e1;cases v<;>rfl
theorem mf (prog:Program)(w:World)(i:Int)(t:Tok):(zJ prog w).is (.inl i) (.int i t)=true:=eM i t
theorem ni (prog:Program)(w:World)(x:Str)(t:Tok):(zJ prog w).is (.inr x) (.str x t)=true:=iW x t
inductive V where
 |non|bl (b:Bool)|int (i:Int)|str (x:Str)|byt (b:Array UInt8)|flt (b:UInt64)|ref (a:Addr)|ty (n:String)
 deriving DecidableEq
def RelV :V->Value->Prop
 |.non,u=>u=Value.none
 |.bl b,u=>u=Value.bool b
 |.int i,u=>∃t,u=Value.int i t
 |.str x,u=>∃t,u=Value.str x t
 |.byt b,u=>∃t,u=Value.bytes b t
 |.flt b,u=>∃t,u=Value.float b t
 |.ref a,u=>u=Value.ref a
 |.ty n,u=>u=Value.type n
abbrev Vals :List V->List Value->Prop:=Paired RelV
theorem Vals.length {xs:List V}{us:List Value}(r:Vals xs us):xs.length=us.length:=Paired.length r
theorem Vals.get :∀{xs:List V}{us:List Value}{i:Nat}{x:V},Vals xs us->xs[i]?=some x->∃u,us[i]?=some u/\RelV x u
 |_,_,_,_,.nil,e=>by simp at e
 |_,_,0,_,.cons r _,e=>by simp at e;subst e;exact⟨_,rfl,r⟩
 |_,_,i+1,x,.cons _ t,e=>by
  obtain⟨u,a,b⟩:=Vals.get (i:=i) (x:=x) t (by simpa using e);exact⟨u,by simpa using a,b⟩
theorem Vals.set {x:V}{u:Value}(r:RelV x u):∀{xs:List V}{us:List Value} (i:Nat),Vals xs us->Vals (xs.set i x) (us.set i u)
 |_,_,_,.nil=>.nil
 |_,_,0,.cons _ t=>.cons r t
 |_,_,i+1,.cons q t=>.cons q (Vals.set r i t)
theorem Vals.append {xs ys:List V}{us ws:List Value}(h:Vals xs us)(s:Vals ys ws):Vals (xs++ys) (us++ws):=by
 induction h with
 |nil=>exact s
 |cons r _ a=>exact .cons r a
theorem Vals.take :∀{xs:List V}{us:List Value} (n:Nat),Vals xs us->Vals (xs.take n) (us.take n)
 |_,_,0,_=>.nil
 |_,_,_+1,.nil=>.nil
 |_,_,n+1,.cons r t=>.cons r (Vals.take n t)
theorem Vals.drop :∀{xs:List V}{us:List Value} (n:Nat),Vals xs us->Vals (xs.drop n) (us.drop n)
 |_,_,0,r=>r
 |_,_,_+1,.nil=>.nil
 |_,_,n+1,.cons _ t=>Vals.drop n t
def vK :Option V->Option Value->Prop
 |some v,some u=>RelV v u
 |none,none=>True
 |_,_=>False
def KV {a:Type}:List (a×V)->List (a×Value)->Prop:=Paired λ(p:a×V) (q:a×Value)=>p.1=q.1/\RelV p.2 q.2
def kV :Key->V
 |.inl i=>.int i
 |.inr x=>.str x
inductive HO where
  |lst (xs:List V)
  |tup (xs:List V)
  |dK (kvs:List (Key×V))|dT (kvs:List (List Key×V))
  |set (S:Int->Bool) (n:Nat)
  |ins (C dx:Addr) (fs:List (Str×V))
  |own (x:Addr)
  |xd (fs:List (Str×V))
  |met (f x:Addr)
  |rng (lo hi:Int)
  |frz (o:Obj) (u:HO)
  |tbl (ps:Array Value)
  |ext (φ:Heap->Prop)
abbrev Hp :=Addr->Option HO
def upd (H:Hp)(a:Addr)(o:HO):Hp:=λb=>if b=a then some o else H b
theorem zh {H:Hp}{a:Addr}{o:HO}:upd H a o a=some o:=by unfold upd;rw[if_pos rfl]
theorem zc {H:Hp}{a b:Addr}{o:HO}(h:b≠a):upd H a o b=H b:=by unfold upd;rw[if_neg h]
theorem sk {H:Hp}{a:Addr}{o u:HO}:upd (upd H a o) a u=upd H a u:=by funext b;unfold upd;split<;>rfl
theorem zK2 {H:Hp}{a b:Addr}{o u:HO}(h:H a=some o)(h':H b=some u)(d:o≠u):a≠b:=by intro e;subst e;rw[h]at h';exact d (z09 h')
theorem zk {H:Hp}{a b:Addr}{o:HO}(h:H a=some o)(h':H b=none):a≠b:=by intro e;subst e;rw[h]at h';cases h'
section
variable (P:Program)(w:World)
def zD (H:Hp)(h:Heap)(a:Addr):HO->Prop
 |.lst xs=>xs.length<=sizeLine/\∃(its:List Value) (n:Nat),Vals xs its/\h.get? a=some {cls:=.type "list",data:=.seq its.toArray n}
 |.tup xs=>xs.length<=sizeLine/\∃its:List Value,Vals xs its/\IsTup h a its.toArray
 |.dK kvs=>kvs.length<=sizeLine/\(a == sysModules)=false/\∃vs,KV kvs vs/\h.DictOf (zJ P w) a vs
 |.dT kvs=>kvs.length<=sizeLine/\(a == sysModules)=false/\∃xs:List (List Key×Addr×Value),
   Paired (λ(p:List Key×V) (q:List Key×Addr×Value)=>p.1=q.1/\H q.2.1=some (.tup (p.1.map kV))/\RelV p.2 q.2.2) kvs xs/\
   ∃o c e,h.get? a=some o/\o.ExactDict/\o.data=.dict c e/\c.toList=xs.map (entryOfKey (tupleKind (zJ P w)))/\(xs.map (·.1)).Nodup
 |.set S n=>h.SetOf (intKind P w) a S n
 |.ins C dx fs=>H dx=some (.own a)/\fs.length<=1000/\dx≠a/\h.get? a=some (PySem.W.instObj C dx)/\
   ∃mA,h.Ns1 dx mA/\(∀f,vK (fs.lookup f) (mA f))/\PySem.Within mA (fs.map (·.1))
 |.own _=>∃o,h.get? a=some o
 |.xd fs=>∃mA,h.Ns1 a mA/\∀f,vK (fs.lookup f) (mA f)
 |.rng lo hi=>∃t u v,h.get? a=some {cls:=.type "range",data:=.fields #[.int lo t,.int hi u,.int 1 v]}
 |.frz o u=>h.get? a=some o/\zD H h a u
 |.tbl ps=>h.get? a=some {cls:=.none,data:=.fields ps}
 |.met f x=>h.get? a=some (PySem.W.methodObj (.ref f) (.ref x))
 |.ext φ=>φ h/\(∃o,h.get? a=some o)/\∀b d:Heap,φ b->(∀o,b.get? a=some o->d.get? a=some o)->φ d
def HOk (H:Hp)(h:Heap):Prop:=∀a o,H a=some o->zD P w H h a o
end
section
variable {P:Program}{w:World}{H H':Hp}{h h':Heap}{a:Addr}{o:HO}
theorem zD.lt (x:zD P w H h a o):a<h.objs.size:=by
 cases o with
 |lst xs=>obtain⟨_,_,_,_,e⟩:=x;exact zY6 e
 |tup xs=>obtain⟨_,_,_,p⟩:=x;exact p.lt
 |dK kvs=>obtain⟨_,_,_,_,o,_,_,e,_⟩:=x;exact zY6 e
 |dT kvs=>obtain⟨_,_,_,_,o,_,_,e,_⟩:=x;exact zY6 e
 |set S n=>obtain⟨o,_,_,_,e,_⟩:=x;exact zY6 e
 |ins C dx fs=>obtain⟨_,_,_,e,_⟩:=x;exact zY6 e
 |own y=>obtain⟨_,e⟩:=x;exact zY6 e
 |xd fs=>obtain⟨_,⟨_,_,_,e,_⟩,_⟩:=x;exact zY6 e
 |rng lo hi=>obtain⟨_,_,_,e⟩:=x;exact zY6 e
 |frz ob u=>obtain⟨e,_⟩:=x;exact zY6 e
 |tbl ps=>exact zY6 (show h.get? a=some _ from x)
 |met f y=>exact zY6 (show h.get? a=some _ from x)
 |ext φ=>obtain⟨_,⟨_,e⟩,_⟩:=x;exact zY6 e
theorem Paired.mapP {α β:Type}{F G:α->β->Prop}{c:List α}{d:List β}(h:Paired F c d)(f:∀a b,F a b->G a b):Paired G c d:=by
 induction h with
 |nil=>exact .nil
 |cons r _ e=>exact .cons (f _ _ r) e
theorem zD.stay (x:zD P w H h a o)(k:∀b u,(b=a\/H b=some (.own a))->h.get? b=some u->h'.get? b=some u)
  (j:∀b,H b=some (.own a)->H' b=some (.own a)) (m:∀b xs,H b=some (.tup xs)->H' b=some (.tup xs)):zD P w H' h' a o:=by
 induction o with
 |lst xs=>obtain⟨z,its,n,r,e⟩:=x;exact⟨z,its,n,r,k _ _ (.inl rfl) e⟩
 |tup xs=>obtain⟨z,its,r,ob,e,c⟩:=x;exact⟨z,its,r,ob,k _ _ (.inl rfl) e,c⟩
 |dK kvs=>obtain⟨z,y,vs,r,ob,g,i,e,c⟩:=x;exact⟨z,y,vs,r,ob,g,i,k _ _ (.inl rfl) e,c⟩
 |dT kvs=>
  obtain⟨z,y,xs,r,ob,g,i,e,c⟩:=x;exact⟨z,y,xs,Paired.mapP r λp q z=>⟨z.1,m _ _ z.2.1,z.2.2⟩,ob,g,i,k _ _ (.inl rfl) e,c⟩
 |set S n=>obtain⟨ob,g,i,t,e,c⟩:=x;exact⟨ob,g,i,t,k _ _ (.inl rfl) e,c⟩
 |ins C dx fs=>
  obtain⟨d,z,ne,e,mA,⟨od,g,i,l,c⟩,r⟩:=x;exact⟨j _ d,z,ne,k _ _ (.inl rfl) e,mA,⟨od,g,i,k _ _ (.inr d) l,c⟩,r⟩
 |own y=>obtain⟨ob,e⟩:=x;exact⟨ob,k _ _ (.inl rfl) e⟩
 |xd fs=>obtain⟨mA,⟨od,g,i,e,c⟩,r⟩:=x;exact⟨mA,⟨od,g,i,k _ _ (.inl rfl) e,c⟩,r⟩
 |rng lo hi=>obtain⟨t,u,v,e⟩:=x;exact⟨t,u,v,k _ _ (.inl rfl) e⟩
 |frz ob u s=>obtain⟨e,q⟩:=x;exact⟨k _ _ (.inl rfl) e,s q⟩
 |tbl ps=>
  have e:h.get? a=some {cls:=.none,data:=.fields ps}:=x;show h'.get? a=some {cls:=.none,data:=.fields ps};exact k a _ (.inl rfl) e
 |met f y=>
  have e:h.get? a=some (PySem.W.methodObj (.ref f) (.ref y)):=x;show h'.get? a=some (PySem.W.methodObj (.ref f) (.ref y));exact k a _ (.inl rfl) e
 |ext φ=>obtain⟨p,⟨o,e⟩,st⟩:=x;exact⟨st _ _ p λo q=>k _ _ (.inl rfl) q,⟨o,k _ _ (.inl rfl) e⟩,st⟩
theorem HOk.lt (x:HOk P w H h)(e:H a=some o):a<h.objs.size:=(x a o e).lt
theorem HOk.fresh (x:HOk P w H h)(e:h.objs.size<=a):H a=none:=by
 cases q:H a with
 |none=>rfl
 |some u=>exact absurd (zX9 (x.lt q) e) (z36 _)
theorem HOk.kept (x:HOk P w H h)(k:∀b u,h.get? b=some u->h'.get? b=some u):HOk P w H h':=λa o e=>
 (x a o e).stay (λb u _ q=>k b u q) (λ_ q=>q) λ_ _ q=>q
theorem HOk.laid (x:HOk P w H h)(k:∀b u,h.get? b=some u->h'.get? b=some u)(d:h.objs.size<=a)(new:zD P w (upd H a o) h' a o):HOk P w (upd H a o) h':=λb u e=>by
 have hn:=x.fresh d;by_cases hb:b=a
 ·subst hb;rw[zh]at e;cases e;exact new
 ·rw[zc hb]at e;exact(x b u e).stay (λc v _ q=>k c v q) (λc q=>by rw[zc (zk q hn)];exact q) λc xs q=>by rw[zc (zk q hn)];exact q
end
def Rd (H:Hp)(a:Addr)(u:HO):Prop:=H a=some u\/∃o,H a=some (.frz o u)
theorem Rd.ok {P:Program}{w:World}{H:Hp}{h:Heap}{a:Addr}{u:HO}(r:Rd H a u)(x:HOk P w H h):zD P w H h a u:=by
 rcases r with r|⟨o,r⟩
 ·exact x a u r
 ·obtain⟨_,q⟩:=x a _ r;exact q
def Mut :Option HO->Prop
 |some (.lst _)=>True
 |some (.dK _)=>True
 |some (.dT _)=>True
 |some (.set _ _)=>True
 |some (.ins _ _ _)=>True
 |some (.ext _)=>True
 |_=>False
section
variable {P:Program}{w:World}{H:Hp}{h h':Heap}{x e:Addr}{o':HO}
theorem HOk.write (ok:HOk P w H h)(g:Mut (H x))(he:e=x\/H e=some (.own x))(k:∀b u,b≠e->h.get? b=some u->h'.get? b=some u)(j:∃u,h'.get? e=some u)
  (new:zD P w (upd H x o') h' x o'):HOk P w (upd H x o') h':=λb u q=>by
 have d:∀c y,H c=some (.own y)->c≠x:=λc y r z=>by subst z;rw[r]at g;exact g
 have f:∀c xs,H c=some (.tup xs)->c≠x:=λc xs r z=>by subst z;rw[r]at g;exact g
 by_cases hb:b=x
 ·subst hb;rw[zh]at q;cases q;exact new
 ·rw[zc hb]at q;by_cases a:b=e
  ·have l:H b=some (.own x):=by
    rcases he with z|z
    ·exact absurd (a.trans z) hb
    ·rw[a];exact z
   rw[q]at l;cases l;obtain⟨v,m⟩:=j;exact⟨v,by rw[a];exact m⟩
  ·refine(ok b u q).stay (λc v i r=>k c v ?_ r) (λc r=>by rw[zc (d c b r)];exact r) λc xs r=>by rw[zc (f c xs r)];exact r
   rcases i with rfl|i
   ·exact a
   ·rintro rfl;rcases he with z|z
    ·exact d c b i z
    ·rw[i]at z;cases z;exact hb rfl
end
structure Un (fs ex:List Addr)(H H':Hp)(h h':Heap):Prop where
 keep:∀b o,h.get? b=some o->H b=none->b∉fs->b∉ex->h'.get? b=some o
 slot:∀b o,h.get? b=some o->H b=none->b∈fs->b∉ex->∃sl,h'.get? b=some {o with slots:=sl}
 free:∀b o,h.get? b=some o->H b=none->b∉ex->H' b=none
 there:∀b o,h.get? b=some o->b∉ex->∃o',h'.get? b=some o'
 tups:∀b xs,H b=some (.tup xs)->H' b=some (.tup xs)
 frzs:∀b o u,H b=some (.frz o u)->H' b=some (.frz o u)
 tbls:∀b ps,H b=some (.tbl ps)->∃more,H' b=some (.tbl (ps++more))
section
variable {fs fs' ex ex':List Addr}{H H1 H2:Hp}{h h1 h2 h':Heap}{a x e:Addr}{o:HO}
theorem Un.any (u:Un fs ex H H1 h h1){b:Addr}{ob:Obj}(q:h.get? b=some ob)(n:H b=none)(c:b∉ex):∃sl,h1.get? b=some {ob with slots:=sl}:=by
 by_cases hb:b∈fs
 ·exact u.slot b ob q n hb c
 ·exact⟨ob.slots,u.keep b ob q n hb c⟩
theorem Un.kept (k:∀b u,h.get? b=some u->h'.get? b=some u):Un fs ex H H h h':=
 ⟨λb ob q _ _ _=>k b ob q,λb ob q _ _ _=>⟨ob.slots,k b ob q⟩,λ_ _ _ n _=>n,λb ob q _=>⟨ob,k b ob q⟩,λ_ _ q=>q,λ_ _ _ q=>q,λ_ ps q=>⟨#[],by rw[q];simp⟩⟩
theorem Un.refl :Un fs ex H H h h:=Un.kept λ_ _ q=>q
theorem Un.laid (k:∀b u,h.get? b=some u->h'.get? b=some u)(c:h.objs.size<=a)(hn:H a=none):Un fs ex H (upd H a o) h h' where
 keep:=λb u q _ _ _=>k b u q
 slot:=λb u q _ _ _=>⟨u.slots,k b u q⟩
 free:=λb u q n _=>by rw[zc (z01 (zX9 (zY6 q) c))];exact n
 there:=λb u q _=>⟨u,k b u q⟩
 tups:=λb xs q=>by rw[zc (zk q hn)];exact q
 frzs:=λb u xs q=>by rw[zc (zk q hn)];exact q
 tbls:=λb ps q=>⟨#[],by rw[zc (zk q hn),q];simp⟩
theorem Un.write (d:Mut (H x))(he:e=x\/H e=some (.own x))(k:∀b u,b≠e->h.get? b=some u->h'.get? b=some u)(f:∃u,h'.get? e=some u):Un fs ex H (upd H x o) h h':=by
 have g:∀b,H b=none->b≠x:=λb n z=>by subst z;rw[n]at d;exact d
 have hb:∀b,H b=none->b≠e:=λb n z=>by
  subst z;rcases he with r|r
  ·exact g b n r
  ·rw[n]at r;cases r
 have hm:∀b u,H b=some u->¬Mut (some u)->b≠x:=λb u q nm z=>by subst z;rw[q]at d;exact nm d
 refine⟨λb u q n _ _=>k b u (hb b n) q,λb u q n _ _=>⟨u.slots,k b u (hb b n) q⟩,λb u q n _=>by rw[zc (g b n)];exact n,λb u q _=>?_,
  λb xs q=>by rw[zc (hm b _ q λz=>z)];exact q,λb u xs q=>by rw[zc (hm b _ q λz=>z)];exact q,λb ps q=>⟨#[],by rw[zc (hm b _ q λz=>z),q];simp⟩⟩
 by_cases c:b=e
 ·subst c;exact f
 ·exact⟨u,k b u c q⟩
end
def trk (h:Heap)(H:Hp):List Addr:=(List.range h.objs.size).filter λa=>(H a).isSome
def qo (h:Heap)(H:Hp):Heap:=PySem.W.hideAll h (trk h H)
theorem hG (h:Heap)(H:Hp):(qo h H).objs.size=h.objs.size:=PySem.W.hideAll_size _ _
theorem dJ {h:Heap}{H:Hp}{b:Addr}{o:Obj}(e:h.get? b=some o)(n:H b=none):(qo h H).get? b=some o:=
 PySem.W.hideAll_get _ e λhm=>by
  have q:(H b).isSome=true:=(z39.mp hm).2;rw[n]at q;simp at q
theorem zn1 {h:Heap}{H:Hp}{b:Addr}{o:Obj}(e:(qo h H).get? b=some o):h.get? b=some o/\H b=none:=by
 have a:h.get? b=some o:=PySem.W.of_hideAll (trk h H) e;refine⟨a,?_⟩;cases q:H b with
 |none=>rfl
 |some x=>
  have hm:b∈trk h H:=z39.mpr ⟨List.mem_range.mpr (zY6 a),by simp[q]⟩;have z:(qo h H).get? b=none:=PySem.W.hideAll_none (trk h H) hm;rw[z]at e;cases e
structure Mod (K:PySem.W.Frag)(mg:Str->Option Value)(base:Heap):Prop where
 kin:K.In base
 glob:base.Ns mainGlobals mg
 blt:∃mb,base.Ns builtinsNs mb/\∀x:Str,x≠"__name__"->mb x=bootBuiltins x
 nolimit:base.NoLimit
structure Cx where
 prog:Program
 w:World
 K:PySem.W.Frag
 mg:Str->Option Value
 base:Heap
 A:Around
 N:List Str
 s₀:Shared
 H₀:Hp
 env:Env
 outer:List Env
 stack:List Env
 ex:List Addr
 fn:Str->Bool
 calm:Bool
 pn:List (Addr×Obj)
 xe:Value->Shared->Prop
def frs (l:List Env):List Addr:=l.filterMap (·.frame)
abbrev Cx.fs (X:Cx):List Addr:=frs X.outer
def Vis (sc:Scope)(x:Str):Prop:=sc.names.lookup x=some .local\/sc.names.lookup x=some .cell\/sc.names.lookup x=some .free
def Loc (sc:Scope)(x:Str):Prop:=sc.names.lookup x=some .local\/sc.names.lookup x=some .cell
def Look (env:Env)(h:Heap)(m:Str->Option Value)(x:Str)(u:Value):Prop:=
 (env.kindOf x=some .local/\m x=some u)\/((env.kindOf x=some .cell\/env.kindOf x=some .free)/\∃c,env.cells.lookup x=some c/\h.IsCell c (some u))
structure Cx.Ok (X:Cx):Prop where
 mod:Mod X.K X.mg X.base
 kind:X.env.scope.kind=.function
 glob:X.env.globals=mainGlobals
 blt:X.env.builtins=builtinsNs
 above:X.s₀.heap.objs.size<=X.env.locals
 inj:∀x y c,X.env.cells.lookup x=some c->X.env.cells.lookup y=some c->x=y
 has:∀x,(X.env.kindOf x=some .cell\/X.env.kindOf x=some .free)->∃c,X.env.cells.lookup x=some c
 cab:∀x c,X.fn x=true->X.env.cells.lookup x=some c->X.s₀.heap.objs.size<=c
 hd:X.calm=true->X.A.handled=none
 frames:X.A.frames=some X.stack
 stk:X.stack=X.outer\/(X.stack=X.env::X.outer/\X.env.frame=some X.env.locals)
 exf:∀b∈X.ex,b≠X.env.locals/\∀x c,X.env.cells.lookup x=some c->c≠b
 bs:∀b o,X.base.get? b=some o->X.s₀.heap.get? b=some o/\X.H₀ b=none
 bsz:X.base.objs.size<=X.s₀.heap.objs.size
 noex:∀b o,X.base.get? b=some o->b∉X.ex
 exfs:∀b∈X.ex,b∉X.fs
 funs:X.s₀.heap.FunFrames X.base X.outer
 frf:∀b∈X.fs,X.H₀ b=none
structure Inv (X:Cx)(pins:List (Addr×Obj))(σ:List (Option V))(H:Hp)(s:Shared):Prop where
 ok:X.Ok
 os:s.os=X.s₀.os
 bare:AllBare s.gens
 base:Un X.fs X.ex X.H₀ H X.s₀.heap s.heap
 loc:∃m,s.heap.Ns X.env.locals m/\∀(i:Nat) (x:Str) (v:V),X.N[i]?=some x->σ[i]?=some (some v)->Vis X.env.scope x->∃u,RelV v u/\Look X.env s.heap m x u
 cell:∀x c,X.env.cells.lookup x=some c->∃v,s.heap.IsCell c v
 free:H X.env.locals=none
 freeC:∀x c,X.env.cells.lookup x=some c->H c=none
 pin:∀p∈X.pn++pins,s.heap.get? p.1=some p.2/\H p.1=none/\p.1≠X.env.locals/\p.1∉X.fs/\∀v,p.2.data≠.cell v
 hok:HOk X.prog X.w H s.heap
 len:σ.length=X.N.length
section
variable {X:Cx}{pins:List (Addr×Obj)}{σ:List (Option V)}{H H':Hp}{s:Shared}{h':Heap}
theorem Cx.Ok.nofr (ok:X.Ok){b:Addr}{o:Obj}(e:X.base.get? b=some o):b∉X.fs:=λhb=>by
 have:=(ok.funs.mem hb).1;rw[e]at this;cases this
theorem Inv.bs (I:Inv X pins σ H s):∀b o,X.base.get? b=some o->s.heap.get? b=some o/\H b=none:=λb o e=>
 ⟨I.base.keep b o (I.ok.bs b o e).1 (I.ok.bs b o e).2 (I.ok.nofr e) (I.ok.noex b o e),I.base.free b o (I.ok.bs b o e).1 (I.ok.bs b o e).2 (I.ok.noex b o e)⟩
theorem Inv.bk (I:Inv X pins σ H s):∀b o,X.base.get? b=some o->s.heap.get? b=some o:=λb o e=>(I.bs b o e).1
theorem Inv.mod (I:Inv X pins σ H s):Mod X.K X.mg X.base:=I.ok.mod
theorem Inv.kIn (I:Inv X pins σ H s):X.K.In s.heap:=I.ok.mod.kin.keeps I.bk
theorem Inv.lt (I:Inv X pins σ H s):X.env.locals<s.heap.objs.size:=let⟨_,hn,_⟩:=I.loc;hn.lt
theorem Inv.sz (I:Inv X pins σ H s):X.s₀.heap.objs.size<=s.heap.objs.size:=zY8 I.ok.above (z30 I.lt)
theorem Inv.nofs (I:Inv X pins σ H s){a:Addr}(h:s.heap.objs.size<=a):a∉X.fs:=λhb=>by
 obtain⟨_,o,b,_⟩:=I.ok.funs.mem hb;exact absurd (zX9 (zY6 b) (zY8 I.sz h)) (z36 _)
theorem Inv.cne (I:Inv X pins σ H s):∀x c,X.env.cells.lookup x=some c->c≠X.env.locals:=λx c e z=>by
 obtain⟨v,o,d,hd⟩:=I.cell x c e;obtain⟨m,⟨o',f,g,a,b,_⟩,_⟩:=I.loc;rw[z,a]at d;cases d;rw[b]at hd;cases hd
theorem Inv.funs (I:Inv X pins σ H s):s.heap.FunFrames X.base X.outer:=by
 have all:∀(l:List Env),(∀b∈frs l,b∈X.fs)->X.s₀.heap.FunFrames X.base l->s.heap.FunFrames X.base l:=by
  intro l
  induction l with
  |nil=>intro _ _;trivial
  |cons env r f=>
   intro c g;obtain⟨hk,⟨L,o,hf,hn,d,hd⟩,hr⟩:=g;have a:L∈X.fs:=c L (by unfold frs;rw[yh7,hf];exact zY9);obtain⟨sl,e⟩:=I.base.slot L o d (I.ok.frf L a) a λz=>I.ok.exfs L z a;exact⟨hk,⟨L,_,hf,hn,e,hd⟩,f (λb hb=>c b (by unfold frs;rw[yh7,hf];exact zY5 _ hb)) hr⟩
 exact all X.outer (λ_ hb=>hb) I.ok.funs
theorem Inv.stack (I:Inv X pins σ H s):s.heap.FunFrames X.base X.stack:=by
 rcases I.ok.stk with e|⟨e,hf⟩
 ·rw[e];exact I.funs
 ·rw[e];obtain⟨m,hn,_⟩:=I.loc;refine .cons (by rw[I.ok.kind];decide) hf hn ?_ I.funs;exact yc0 (zY8 I.ok.bsz I.ok.above)
theorem Inv.stkSub (I:Inv X pins σ H s):∀b∈frs X.stack,b∈X.env.locals::X.fs:=λb hb=>by
 rcases I.ok.stk with e|⟨e,hf⟩
 ·rw[e]at hb;exact zY5 _ hb
 ·rw[e]at hb;unfold frs at hb;rw[yh7,hf]at hb;exact hb
theorem Inv.stkFree (I:Inv X pins σ H s):∀b∈frs X.stack,H b=none:=λb hb=>by
 rcases zY2.mp (I.stkSub b hb)with e|hb
 ·rw[e];exact I.free
 ·obtain⟨_,o,a,_⟩:=I.ok.funs.mem hb;exact I.base.free b o a (I.ok.frf b hb) λz=>I.ok.exfs b z hb
theorem Inv.step {g':Array GenState}{t':Nat}{d':Drawn}{ch:List Addr}(I:Inv X pins σ H s)
  (g:∀b∈ch,(b∈X.ex\/X.s₀.heap.objs.size<=b)/\b≠X.env.locals/\(∀x c,X.env.cells.lookup x=some c->c≠b)/\∀p∈X.pn++pins,p.1≠b)
  (keep:∀b o,b≠X.env.locals->b∉X.fs->b∉ch->s.heap.get? b=some o->H b=none->h'.get? b=some o)
  (slot:∀b o,b≠X.env.locals->b∈X.fs->b∉ch->s.heap.get? b=some o->H b=none->∃sl,h'.get? b=some {o with slots:=sl}) (free:∀b o,b∉ch->s.heap.get? b=some o->H b=none->H' b=none)
  (there:∀b o,b∉ch->s.heap.get? b=some o->∃o',h'.get? b=some o')
  (tups:∀b xs,H b=some (.tup xs)->H' b=some (.tup xs)) (frzs:∀b o u,H b=some (.frz o u)->H' b=some (.frz o u)) (tbls:∀b ps,H b=some (.tbl ps)->∃more,H' b=some (.tbl (ps++more)))
  (ns:∀m,s.heap.Ns X.env.locals m->h'.Ns X.env.locals m) (hok:HOk X.prog X.w H' h') (hg:AllBare g'):
  Inv X pins σ H' {s with heap:=h',gens:=g',drawn:=d',toks:=t'}:=by
 have y:∀b o,X.s₀.heap.get? b=some o->b≠X.env.locals:=λb o e=>z01 (zX9 (zY6 e) I.ok.above);have h:∀b o,X.s₀.heap.get? b=some o->b∉X.ex->b∉ch:=λb o e a hb=>by
  rcases(g b hb).1 with z|z
  ·exact a z
  ·exact absurd (zX9 (zY6 e) z) (z36 _)
 have cellK:∀x c,X.env.cells.lookup x=some c->∀v,s.heap.IsCell c v->h'.IsCell c v:=λx c e v B=>by
  obtain⟨o,j,hd⟩:=B;have f:c∉ch:=λz=>(g c z).2.2.1 x c e rfl;by_cases D:c∈X.fs
  ·obtain⟨sl,q⟩:=slot c o (I.cne x c e) D f j (I.freeC x c e);exact⟨_,q,hd⟩
  ·exact⟨o,keep c o (I.cne x c e) D f j (I.freeC x c e),hd⟩
 refine⟨I.ok,I.os,hg,⟨λb o e n hb a=>?_,λb o e n hb a=>?_,λb o e n a=>?_,λb o e a=>?_,λb xs e=>tups b xs (I.base.tups b xs e),λb o xs e=>frzs b o xs (I.base.frzs b o xs e),λb ps e=>?_⟩,?_,λx c e=>?_,?_,λx c e=>?_,λp C=>?_,hok,I.len⟩
 ·exact keep b o (y b o e) hb (h b o e a) (I.base.keep b o e n hb a) (I.base.free b o e n a)
 ·obtain⟨sl,e1⟩:=I.base.slot b o e n hb a;obtain⟨A,t⟩:=slot b _ (y b o e) hb (h b o e a) e1 (I.base.free b o e n a);exact⟨A,t⟩
 ·obtain⟨o',e1⟩:=I.base.there b o e a;exact free b o' (h b o e a) e1 (I.base.free b o e n a)
 ·obtain⟨o',e1⟩:=I.base.there b o e a;exact there b o' (h b o e a) e1
 ·obtain⟨m1,e1⟩:=I.base.tbls b ps e;obtain⟨m2,t⟩:=tbls b _ e1;exact⟨m1++m2,by rw[t,Array.append_assoc]⟩
 ·obtain⟨m,hn,E⟩:=I.loc;refine⟨m,ns m hn,λi x v e1 t F=>?_⟩;obtain⟨u,r,l⟩:=E i x v e1 t F;refine⟨u,r,?_⟩;rcases l with l|⟨k,c,e,z⟩
  ·exact .inl l
  ·exact .inr ⟨k,c,e,cellK x c e _ z⟩
 ·obtain⟨v,z⟩:=I.cell x c e;exact⟨v,cellK x c e v z⟩
 ·obtain⟨m,⟨o,_,_,j,_⟩,_⟩:=I.loc;exact free _ o (λz=>(g _ z).2.1 rfl) j I.free
 ·obtain⟨v,o,j,hd⟩:=I.cell x c e;exact free c o (λz=>(g c z).2.2.1 x c e rfl) j (I.freeC x c e)
 ·obtain⟨e,n,ne,nf,d⟩:=I.pin p C;have f:p.1∉ch:=λz=>(g p.1 z).2.2.2 p C rfl;exact⟨keep p.1 p.2 ne nf f e n,free p.1 p.2 f e n,ne,nf,d⟩
theorem Inv.un {t':Nat}(I:Inv X pins σ H s)(u:Un X.fs [] H H' s.heap h')(hok:HOk X.prog X.w H' h'):Inv X pins σ H' {s with heap:=h',toks:=t'}:=by
 obtain⟨m,⟨o,j,k,f,r⟩,_⟩:=id I.loc;obtain⟨sl,h⟩:=u.any f I.free (by simp);exact I.step (g':=s.gens) (d':=s.drawn) (ch:=[]) (λ_ z=>nomatch z) (λb o _ hb _ e n=>u.keep b o e n hb (by simp)) (λb o _ hb _ e n=>u.slot b o e n hb (by simp)) (λb o _ e n=>u.free b o e n (by simp)) (λb o _ e=>u.there b o e (by simp)) u.tups u.frzs u.tbls (λi hm=>by
  obtain⟨o',c,d,a,g⟩:=hm;rw[f]at a;cases a;exact⟨_,c,d,h,g⟩) hok I.bare
theorem Inv.call {g':Array GenState}{t':Nat}{d':Drawn}{ch:List Addr}(I:Inv X pins σ H s)(u:Un (frs X.stack) ch H H' s.heap h')(hok:HOk X.prog X.w H' h')(hg:AllBare g')
  (f:∀b∈ch,(b∈X.ex\/X.s₀.heap.objs.size<=b)/\b≠X.env.locals/\(∀x c,X.env.cells.lookup x=some c->c≠b)/\∀p∈X.pn++pins,p.1≠b):
  Inv X pins σ H' {s with heap:=h',gens:=g',drawn:=d',toks:=t'}:=by
 obtain⟨m,⟨o,q,t,j,r⟩,_⟩:=id I.loc;obtain⟨sl,i⟩:=u.any j I.free λz=>(f _ z).2.1 rfl;exact I.step (ch:=ch) f (λb o i hb a e n=>u.keep b o e n (λz=>(zY2.mp (I.stkSub b z)).elim i hb) a) (λb o _ _ a e n=>u.any e n a) (λb o a e n=>u.free b o e n a) (λb o a e=>u.there b o e a) u.tups u.frzs u.tbls (λl hm=>by
  obtain⟨o',g,h,d,k⟩:=hm;rw[j]at d;cases d;exact⟨_,g,h,i,k⟩) hok hg
theorem Inv.turned {t':Nat}{it:Addr}(I:Inv X pins σ H s)(k:∀b o,b≠it->s.heap.get? b=some o->h'.get? b=some o)(hn:H it=none)(f:it≠X.env.locals)
  (h:it∈X.ex\/X.s₀.heap.objs.size<=it) (l:∀x c,X.env.cells.lookup x=some c->c≠it) (j:∀p∈X.pn++pins,p.1≠it):Inv X pins σ H {s with heap:=h',toks:=t'}:=by
 have d:∀b u,H b=some u->b≠it:=λb u e z=>by rw[z,hn]at e;cases e
 refine I.step (g':=s.gens) (d':=s.drawn) (ch:=[it]) (λb hb=>?_) (λb o _ _ a e _=>k b o (λz=>a (by simp[z])) e) (λb o _ _ a e _=>⟨o.slots,k b o (λz=>a (by simp[z])) e⟩) (λ_ _ _ _ n=>n)
  (λb o a e=>⟨o,k b o (λz=>a (by simp[z])) e⟩) (λ_ _ e=>e) (λ_ _ _ e=>e) (λb ps e=>⟨#[],by rw[e];simp⟩) (λm hm=>?_) (λb u e=>?_) I.bare
 ·have e:b=it:=by simpa using hb
  subst e;exact⟨h,f,l,j⟩
 ·obtain⟨o,i,t,g,r⟩:=hm;exact⟨o,i,t,k _ o (z23 f) g,r⟩
 ·refine(I.hok b u e).stay (λc v a q=>k c v ?_ q) (λ_ q=>q) λ_ _ q=>q;rcases a with z|z
  ·rw[z];exact d b u e
  ·exact d c _ z
theorem Inv.tok (I:Inv X pins σ H s)(t:Nat):Inv X pins σ H {s with toks:=t}:=I.un (h':=s.heap) (t':=t) Un.refl I.hok
theorem Inv.kept {t':Nat}(I:Inv X pins σ H s)(k:∀b u,s.heap.get? b=some u->h'.get? b=some u):Inv X pins σ H {s with heap:=h',toks:=t'}:=I.un (Un.kept k) (I.hok.kept k)
theorem Inv.laid {a:Addr}{o:HO}{t':Nat}(I:Inv X pins σ H s)(k:∀b u,s.heap.get? b=some u->h'.get? b=some u)(c:s.heap.objs.size<=a)(new:zD X.prog X.w (upd H a o) h' a o):
  Inv X pins σ (upd H a o) {s with heap:=h',toks:=t'}:=I.un (Un.laid k c (I.hok.fresh c)) (I.hok.laid k c new)
theorem Inv.write {x e:Addr}{o:HO}{t':Nat}(I:Inv X pins σ H s)(c:Mut (H x))(he:e=x\/H e=some (.own x))(k:∀b u,b≠e->s.heap.get? b=some u->h'.get? b=some u)(a:∃u,h'.get? e=some u)
  (new:zD X.prog X.w (upd H x o) h' x o):Inv X pins σ (upd H x o) {s with heap:=h',toks:=t'}:=I.un (Un.write c he k a) (I.hok.write c he k a new)
theorem Inv.pins_of {a:List (Addr×Obj)}(I:Inv X pins σ H s)(h:∀p∈a,s.heap.get? p.1=some p.2/\H p.1=none/\p.1≠X.env.locals/\p.1∉X.fs/\∀v,p.2.data≠.cell v):Inv X a σ H s:=
 ⟨I.ok,I.os,I.bare,I.base,I.loc,I.cell,I.free,I.freeC,λp b=>(z05.mp b).elim (λz=>I.pin p (z52 _ z)) (h p),I.hok,I.len⟩
theorem lq {N:List Str}(d:N.Nodup){i j:Nat}{x:Str}(a:N[i]?=some x)(b:N[j]?=some x):i=j:=by
 obtain⟨e,e1⟩:=zY0.mp a;obtain⟨f,c⟩:=zY0.mp b;exact(List.getElem_inj d).mp (e1.trans c.symm)
theorem qV {M:Model}{A:Around}{E:Value->Shared->Prop}{i:Nat}{x:Str}{v:V}{u:Value}{Q:Unit->Shared->Prop}(I:Inv X pins σ H s)(hN:X.N.Nodup)(hi:X.N[i]?=some x)(l:Loc X.env.scope x)(r:RelV v u)
  (h:∀s',Inv X pins (σ.set i (some v)) H s'->(∃a,Heap.SameBut a s.heap s'.heap/\(a=X.env.locals\/X.env.cells.lookup x=some a))->Q () s') (hf:X.fn x=true\/X.env.scope.names.lookup x=some .local:=by first|exact .inl rfl|exact .inr rfl|assumption):wpAny M A (storeName X.env x u) Q E s:=by
 obtain⟨m,hn,hl⟩:=id I.loc;have J:(X.env.scope.kind == .class||(X.env.scope.kind == .module&&X.env.locals != X.env.globals))=false:=by rw[I.ok.kind];rfl
 have C:i<σ.length:=by rw[I.len];exact(zY0.mp hi).1
 have cne:=I.cne;have tracked:∀{a:Addr} {h':Heap},(∃o,s.heap.get? a=some o/\H a=none)->Heap.SameBut a s.heap h'->HOk X.prog X.w H h':=λ{a h'} ha f b ob e=>by
  obtain⟨_,_,t⟩:=ha;refine(I.hok b ob e).stay (λc P g q=>(f.2 c ?_).trans q) (λ_ q=>q) λ_ _ q=>q;rintro rfl;rcases g with rfl|g
  ·rw[t]at e;cases e
  ·rw[t]at g;cases g
 rcases l with hk|hk
 ·refine wpAny_storeName_local hk hn (λh' S f=>?_) J;obtain⟨oL,_,_,W,_⟩:=id hn;refine h _ ⟨I.ok,I.os,I.bare,⟨λb o e n hb l=>?_,λb o e n hb l=>?_,I.base.free,λb o e l=>?_,I.base.tups,I.base.frzs,I.base.tbls⟩,⟨_,S,λj y U e1 B Z=>?_⟩,λy c e=>?_,I.free,I.freeC,λp R=>?_,tracked ⟨oL,W,I.free⟩ f,by simpa using I.len⟩ ⟨_,f,.inl rfl⟩
  ·exact(f.2 b (z01 (zX9 (zY6 e) I.ok.above))).trans (I.base.keep b o e n hb l)
  ·obtain⟨sl,e1⟩:=I.base.slot b o e n hb l;exact⟨sl,(f.2 b (z01 (zX9 (zY6 e) I.ok.above))).trans e1⟩
  ·obtain⟨o',e1⟩:=I.base.there b o e l;exact⟨o',(f.2 b (z01 (zX9 (zY6 e) I.ok.above))).trans e1⟩
  ·by_cases D:j=i
   ·subst D;rw[hi]at e1;cases e1;rw[z81 C]at B;cases B;exact⟨u,r,.inl ⟨hk,by simp⟩⟩
   ·rw[z53 (z23 D)]at B;obtain⟨T,Y,q⟩:=hl j y U e1 B Z;refine⟨T,Y,?_⟩;rcases q with⟨k,e⟩|⟨k,c,e,z⟩
    ·refine .inl ⟨k,?_⟩;have:y≠x:=λe=>D (lq hN e1 (e▸hi));simp[this,e]
    ·exact .inr ⟨k,c,e,z.sameBut f (cne y c e)⟩
  ·obtain⟨P,z⟩:=I.cell y c e;exact⟨P,z.sameBut f (cne y c e)⟩
  ·obtain⟨e,n,ne,nf,d⟩:=I.pin p R;exact⟨(f.2 p.1 ne).trans e,n,ne,nf,d⟩
 ·have F:X.fn x=true:=by
   rcases hf with z|z
   ·exact z
   ·rw[z]at hk;cases hk
  obtain⟨c,g⟩:=I.ok.has x (.inl hk);obtain⟨P,z⟩:=I.cell x c g;refine wpAny_storeName_cell I.ok.kind hk g z (λh' G f=>?_);obtain⟨oc,O,L⟩:=id z;refine h {s with heap:=h'} ⟨I.ok,I.os,I.bare,⟨λb o e n hb l=>?_,λb o e n hb l=>?_,I.base.free,λb o e l=>?_,I.base.tups,I.base.frzs,I.base.tbls⟩,⟨m,hn.sameBut f (z23 (cne x c g)),λj y U e1 B Z=>?_⟩,λy c' e=>?_,I.free,I.freeC,λp R=>?_,tracked ⟨oc,O,I.freeC x c g⟩ f,by simpa using I.len⟩ ⟨c,f,.inr g⟩
  ·exact(f.2 b (z01 (zX9 (zY6 e) (I.ok.cab x c F g)))).trans (I.base.keep b o e n hb l)
  ·obtain⟨sl,e1⟩:=I.base.slot b o e n hb l;exact⟨sl,(f.2 b (z01 (zX9 (zY6 e) (I.ok.cab x c F g)))).trans e1⟩
  ·obtain⟨o',e1⟩:=I.base.there b o e l;exact⟨o',(f.2 b (z01 (zX9 (zY6 e) (I.ok.cab x c F g)))).trans e1⟩
  ·by_cases D:j=i
   ·subst D;rw[hi]at e1;cases e1;rw[z81 C]at B;cases B;exact⟨u,r,.inr ⟨.inl hk,c,g,G⟩⟩
   ·rw[z53 (z23 D)]at B;obtain⟨T,Y,q⟩:=hl j y U e1 B Z;refine⟨T,Y,?_⟩;rcases q with q|⟨k,c',e,z'⟩
    ·exact .inl q
    ·refine .inr ⟨k,c',e,z'.sameBut f ?_⟩;rintro rfl;exact D (lq hN e1 (I.ok.inj _ _ _ e g▸hi))
  ·by_cases K:c'=c
   ·subst K;exact⟨_,G⟩
   ·obtain⟨w2,z2⟩:=I.cell y c' e;exact⟨w2,z2.sameBut f K⟩
  ·obtain⟨e,n,ne,nf,d⟩:=I.pin p R;refine⟨(f.2 p.1 ?_).trans e,n,ne,nf,d⟩;intro q;rw[q,O]at e;have q':oc=p.2:=z09 e;exact d P (by rw[<-q'];exact L)
theorem oZ {M:Model}{A:Around}{E:Value->Shared->Prop}{i:Nat}{x:Str}{v:V}{u:Value}{Q:Unit->Shared->Prop}(I:Inv X pins σ H s)(c:X.N.Nodup)(hi:X.N[i]?=some x)(b:Loc X.env.scope x)(r:RelV v u)
  (h:∀s',Inv X pins (σ.set i (some v)) H s'->Q () s') (hf:X.fn x=true\/X.env.scope.names.lookup x=some .local:=by first|exact .inl rfl|exact .inr rfl|assumption):wpAny M A (storeName X.env x u) Q E s:=
 qV I c hi b r (λs' a _=>h s' a) hf
theorem Inv.call' {s':Shared}{ch:List Addr}(I:Inv X pins σ H s)(d:s'.os=s.os)(u:Un (frs X.stack) ch H H' s.heap s'.heap)(hok:HOk X.prog X.w H' s'.heap)(hg:AllBare s'.gens)
  (a:∀b∈ch,(b∈X.ex\/X.s₀.heap.objs.size<=b)/\b≠X.env.locals/\(∀x c,X.env.cells.lookup x=some c->c≠b)/\∀p∈X.pn++pins,p.1≠b):Inv X pins σ H' s':=by
 obtain⟨h',g',d',t',o'⟩:=s';have e:o'=s.os:=d;subst e;exact I.call (g':=g') (t':=t') (d':=d') u hok hg a
end
abbrev XK :=Value->Option Addr->Hp->Prop
abbrev St :=List (Option V)
abbrev VK :=V->Hp->Prop
abbrev TE :=St->Hp->VK->Prop
abbrev TT :=St->Hp->(Bool->Hp->Prop)->Prop
abbrev TA :=St->Hp->(List V->Hp->Prop)->Prop
structure Ends where
 nx:St->Hp->Prop
 rt:VK
 bk:St->Hp->Prop:=λ_ _=>False
 ct:St->Hp->Prop:=λ_ _=>False
abbrev TS :=Ends->St->Hp->Prop
def EP (X:Cx)(pins:List (Addr×Obj))(σ:St)(Q:VK)(u:Value)(s':Shared):Prop:=∃v H',Inv X pins σ H' s'/\RelV v u/\Q v H'
def TP (X:Cx)(pins:List (Addr×Obj))(σ:St)(Q:Bool->Hp->Prop)(b:Bool)(s':Shared):Prop:=∃H',Inv X pins σ H' s'/\Q b H'
def AP (X:Cx)(pins:List (Addr×Obj))(σ:St)(Q:List V->Hp->Prop)(us:List Value)(s':Shared):Prop:=∃vs H',Inv X pins σ H' s'/\Vals vs us/\Q vs H'
def SP (X:Cx)(pins:List (Addr×Obj))(D:Ends)(f:Flow)(s':Shared):Prop:=
 match f with
 |.next=>∃a H',Inv X pins a H' s'/\D.nx a H'
 |.brk=>∃a H',Inv X pins a H' s'/\D.bk a H'
 |.cont=>∃a H',Inv X pins a H' s'/\D.ct a H'
 |.ret u=>∃v a H',Inv X pins a H' s'/\RelV v u/\D.rt v H'
def PE (X:Cx)(e:Expr)(t:TE):Prop:=
 ∀(pins:List (Addr×Obj)) (s:Shared) (σ:St) (H:Hp) (Q:VK),Inv X pins σ H s->t σ H Q->wpAny (model X.prog X.w) X.A (eval e X.env) (EP X pins σ Q) X.xe s
def PT (X:Cx)(e:Expr)(t:TT):Prop:=
 ∀(pins:List (Addr×Obj)) (s:Shared) (σ:St) (H:Hp) (Q:Bool->Hp->Prop),Inv X pins σ H s->t σ H Q->wpAny (model X.prog X.w) X.A (isTrue e X.env (eval e X.env)) (TP X pins σ Q) X.xe s
def PW (X:Cx)(e:Expr)(t:TT):Prop:=
 ∀(whole:Sem Value) (pins:List (Addr×Obj)) (s:Shared) (σ:St) (H:Hp) (Q:Bool->Hp->Prop),Inv X pins σ H s->t σ H Q->wpAny (model X.prog X.w) X.A (isTrue e X.env whole) (TP X pins σ Q) X.xe s
theorem PW.pt {X:Cx}{e:Expr}{t:TT}(h:PW X e t):PT X e t:=h _
def PA (X:Cx)(a:List Expr)(t:TA):Prop:=
 ∀(pos:Pos) (pins:List (Addr×Obj)) (s:Shared) (σ:St) (H:Hp) (Q:List V->Hp->Prop),Inv X pins σ H s->t σ H Q->wpAny (model X.prog X.w) X.A (spliced (backTo pos (starEach a X.env))) (AP X pins σ Q) X.xe s
def PS (X:Cx)(st:Stmt)(t:TS):Prop:=
 ∀(pins:List (Addr×Obj)) (s:Shared) (σ:St) (H:Hp) (D:Ends),Inv X pins σ H s->t D σ H->wpAny (model X.prog X.w) X.A (exec st X.env) (SP X pins D) X.xe s
def PSs (X:Cx)(st:List Stmt)(t:TS):Prop:=
 ∀(pins:List (Addr×Obj)) (s:Shared) (σ:St) (H:Hp) (D:Ends),Inv X pins σ H s->t D σ H->wpAny (model X.prog X.w) X.A (execs st X.env) (SP X pins D) X.xe s
theorem thn {α:Type}{t:Sem α}{Q b:α->Shared->Prop}{M:Model}{A:Around}{E:Value->Shared->Prop}{s:Shared}(h:wpAny M A t Q E s)(c:∀a s,Q a s->b a s):wpAny M A t b E s:=z31 h c λ_ _ x=>x
section
variable {X:Cx}
def zB3 (i:Nat):TE:=λσ H Q=>∃v,σ[i]?=some (some v)/\Q v H
def tC (v:V):TE:=λ_ H Q=>Q v H
theorem yB {i:Nat}{x:Str}{pos:Pos}(j:X.N[i]?=some x)(g:Vis X.env.scope x)(hd:(x == ("__debug__":Str))=false:=by decide)(b:(x == ("__classdict__":Str))=false:=by decide):PE X (.Name x pos) (zB3 i):=by
 intro pins s σ H Q I h;obtain⟨v,e,h⟩:=h;obtain⟨m,hn,f⟩:=I.loc;obtain⟨u,r,l⟩:=f i x v j e g;have fin:EP X pins σ Q u s:=⟨v,H,I,r,h⟩;rcases l with⟨hk,hm⟩|⟨hk,c,d,a⟩
 ·exact wpAny_Name (wpAny_loadName_local I.ok.kind hk hn hm fin) hd
 ·rcases hk with hk|hk
  ·exact wpAny_Name (wpAny_loadName_cell I.ok.kind hk d a fin) hd
  ·exact wpAny_Name (wpAny_loadName_free I.ok.kind hk d a fin b) hd
theorem ye {i j pos}:PE X (.Constant (.int i) j pos) (tC (.int i)):=λ_ _ _ H _ I h=>wpAny_Constant_int ⟨.int i,H,I.tok _,⟨_,rfl⟩,h⟩
theorem zR3 {b j pos}:PE X (.Constant (.bool b) j pos) (tC (.bl b)):=λ_ _ _ H _ I h=>Constant_bool ⟨.bl b,H,I,rfl,h⟩
theorem bA {j pos}:PE X (.Constant .none j pos) (tC .non):=λ_ _ _ H _ I h=>Constant_none ⟨.non,H,I,rfl,h⟩
theorem zD6 {x j pos}:PE X (.Constant (.str x) j pos) (tC (.str x)):=λ_ _ _ H _ I h=>Calls.Constant_str ⟨.str x,H,I.tok _,⟨_,rfl⟩,h⟩
def Gl (X:Cx)(x:Str):Prop:=X.env.kindOf x=some .globalImplicit
theorem xM {E:Value->Shared->Prop}{pins:List (Addr×Obj)}{s:Shared}{σ:St}{H:Hp}{x:Str}{u:Value}{pos:Pos}{Q:Value->Shared->Prop}(I:Inv X pins σ H s)(hg:Gl X x)(hm:X.mg x=some u)(h:Q u s)
  (hd:(x == ("__debug__":Str))=false:=by decide):wpAny (model X.prog X.w) X.A (eval (.Name x pos) X.env) Q E s:=
 Calls.Name_function_global I.ok.kind hg (Calls.loadGlobal_global (by rw[I.ok.glob];exact I.mod.glob.keeps I.bk) hm h) hd
theorem yU {E:Value->Shared->Prop}{pins:List (Addr×Obj)}{s:Shared}{σ:St}{H:Hp}{x:Str}{u:Value}{pos:Pos}{Q:Value->Shared->Prop}(I:Inv X pins σ H s)(hg:Gl X x)(hm:X.mg x=none)(b:bootBuiltins x=some u)(h:Q u s)
  (hn:x≠"__name__":=by decide) (hd:(x == ("__debug__":Str))=false:=by decide):wpAny (model X.prog X.w) X.A (eval (.Name x pos) X.env) Q E s:=by
 obtain⟨mb,a,c⟩:=I.mod.blt;exact Calls.Name_function_global I.ok.kind hg (Calls.loadGlobal_builtin (by rw[I.ok.glob];exact I.mod.glob.keeps I.bk) hm (by rw[I.ok.blt];exact a.keeps I.bk) ((c x hn).trans b) h) hd
theorem zk9 {x:Str}{v:V}{u:Value}{pos:Pos}(hg:Gl X x)(hm:X.mg x=some u)(r:RelV v u)(hd:(x == ("__debug__":Str))=false:=by decide):PE X (.Name x pos) (tC v):=
 λ_ _ _ H _ I h=>xM I hg hm ⟨v,H,I,r,h⟩ hd
theorem zi3 {x:Str}{v:V}{u:Value}{pos:Pos}(hg:Gl X x)(hm:X.mg x=none)(a:bootBuiltins x=some u)(r:RelV v u)(hn:x≠"__name__":=by decide)(hd:(x == ("__debug__":Str))=false:=by decide):PE X (.Name x pos) (tC v):=
 λ_ _ _ H _ I h=>yU I hg hm a ⟨v,H,I,r,h⟩ hn hd
variable {a b:Expr}{ta tb:TE}{pos:Pos}
def tB (t:TE):TT:=λσ H Q=>t σ H λx H1=>∃c,x=.bl c/\Q c H1
theorem zE2 {e:Expr}{t:TE}(h:PE X e t)(he:∀whole,isTrue e X.env whole=(do let v <-whole;standAt e.pos;holding [v] (truthy v)):=by intro _;rfl):PT X e (tB t):=by
 intro pins s σ H Q I hw;refine isTrue_plain (thn (h pins s σ H _ I hw) λv s1 c=>?_) (he _);obtain⟨x,H1,f,i,g⟩:=c;obtain⟨d,rfl,q⟩:=g;cases i;exact z65 ⟨H1,f,q⟩
variable {tA tB':TT}{rest:List Expr}
def zV5 (t u:TT):TT:=λσ H Q=>t σ H λc H1=>if c=true then u σ H1 Q else Q false H1
def tOr (t u:TT):TT:=λσ H Q=>t σ H λc H1=>if c=true then Q true H1 else u σ H1 Q
def zU4 (t:TT):TT:=λσ H Q=>t σ H λc H1=>Q (!c) H1
theorem zl9 (ha:PT X a tA):PW X (.BoolOp .And [a] pos) tA:=by
 intro d pins s σ H Q I h;refine isTrue_and (thn (ha pins s σ H Q I h) λc s1 e=>?_);cases c with
 |true=>exact isTrue_and_nil e
 |false=>exact e
theorem zA5 (ha:PT X a tA):PW X (.BoolOp .Or [a] pos) tA:=by
 intro d pins s σ H Q I h;refine isTrue_or (thn (ha pins s σ H Q I h) λc s1 e=>?_);cases c with
 |false=>exact isTrue_or_nil e
 |true=>exact e
theorem zE4 (ha:PT X a tA)(hb:PW X (.BoolOp .And (b::rest) pos) tB'):PW X (.BoolOp .And (a::b::rest) pos) (zV5 tA tB'):=by
 intro g pins s σ H Q I h;refine isTrue_and (thn (ha pins s σ H _ I h) λc s1 d=>?_);obtain⟨H1,e,f⟩:=d;cases c with
 |true=>exact hb g pins s1 σ H1 Q e f
 |false=>exact⟨H1,e,f⟩
theorem zO0 (ha:PT X a tA)(hb:PW X (.BoolOp .Or (b::rest) pos) tB'):PW X (.BoolOp .Or (a::b::rest) pos) (tOr tA tB'):=by
 intro g pins s σ H Q I h;refine isTrue_or (thn (ha pins s σ H _ I h) λc s1 d=>?_);obtain⟨H1,e,f⟩:=d;cases c with
 |true=>exact⟨H1,e,f⟩
 |false=>exact hb g pins s1 σ H1 Q e f
theorem zE9 (ha:PT X a tA):PT X (.UnaryOp .Not a pos) (zU4 tA):=by
 intro pins s σ H Q I h;exact isTrue_not (ha pins s σ H (λc H1=>Q (!c) H1) I h)
def zK4 (ta tb:TE):TE:=λσ H Q=>ta σ H λx H1=>∃c,x=.bl c/\if c=true then tb σ H1 Q else Q (.bl false) H1
def zV3 (ta tb:TE):TE:=λσ H Q=>ta σ H λx H1=>∃c,x=.bl c/\if c=true then Q (.bl true) H1 else tb σ H1 Q
def zR6 (ta:TE):TE:=λσ H Q=>ta σ H λx H1=>∃c,x=.bl c/\Q (.bl (!c)) H1
theorem zF8 {op}{t:TE}(h:PE X a t):PE X (.BoolOp op [a] pos) t:=λpins s σ H Q I hw=>BoolOp_one (h pins s σ H Q I hw)
theorem zA9 (ha:PE X a ta)(hb:PE X (.BoolOp .And (b::rest) pos) tb):PE X (.BoolOp .And (a::b::rest) pos) (zK4 ta tb):=by
 intro pins s σ H Q I h;refine BoolOp_and (thn (ha pins s σ H _ I h) λv s1 d=>?_);obtain⟨x,H1,f,g,e⟩:=d;obtain⟨c,rfl,e⟩:=e;cases g;refine z65 ?_;cases c with
 |true=>exact hb pins s1 σ H1 Q f e
 |false=>exact⟨.bl false,H1,f,rfl,e⟩
theorem zT1 (ha:PE X a ta)(hb:PE X (.BoolOp .Or (b::rest) pos) tb):PE X (.BoolOp .Or (a::b::rest) pos) (zV3 ta tb):=by
 intro pins s σ H Q I h;refine BoolOp_or (thn (ha pins s σ H _ I h) λv s1 d=>?_);obtain⟨x,H1,f,g,e⟩:=d;obtain⟨c,rfl,e⟩:=e;cases g;refine z65 ?_;cases c with
 |false=>exact hb pins s1 σ H1 Q f e
 |true=>exact⟨.bl true,H1,f,rfl,e⟩
theorem zD4 (ha:PE X a ta):PE X (.UnaryOp .Not a pos) (zR6 ta):=by
 intro pins s σ H Q I h;refine UnaryOp_ (thn (ha pins s σ H _ I h) λv s1 d=>?_);obtain⟨x,H1,f,g,e⟩:=d;obtain⟨c,rfl,e⟩:=e;cases g;exact not_of (z65 ⟨.bl (!c),H1,f,rfl,e⟩)
def tIf (t:TT)(ta tb:TE):TE:=λσ H Q=>t σ H λc H1=>if c=true then ta σ H1 Q else tb σ H1 Q
theorem zc5 {c:Expr}(i:PT X c tA)(ha:PE X a ta)(hb:PE X b tb):PE X (.IfExp c a b pos) (tIf tA ta tb):=by
 intro pins s σ H Q I h;refine wpAny_IfExp (thn (i pins s σ H _ I h) λd s1 e=>?_);obtain⟨H1,f,g⟩:=e;cases d with
 |true=>exact ha pins s1 σ H1 Q f g
 |false=>exact hb pins s1 σ H1 Q f g
end
def SqL (K:PySem.W.Frag)(H:Hp)(a:Addr)(xs:List V):Prop:=
 Rd H a (.lst xs)\/
  ∃(o:Obj) (its:Array Value) (n:Nat),K.lookup a=some o/\o.cls=.type "list"/\o.dict=none/\o.data=.seq its n/\its.size<=sizeLine/\Vals xs its.toList
def SqT (K:PySem.W.Frag)(H:Hp)(a:Addr)(xs:List V):Prop:=
 Rd H a (.tup xs)\/
  ∃(o:Obj) (its:Array Value) (n:Nat),K.lookup a=some o/\o.cls=.type "tuple"/\o.data=.seq its n/\its.size<=sizeLine/\Vals xs its.toList
def zT9 :Value->Option V
 |.none=>some .non
 |.bool b=>some (.bl b)
 |.int i _=>some (.int i)
 |.str x _=>some (.str x)
 |.bytes b _=>some (.byt b)
 |.float b _=>some (.flt b)
 |.ref a=>some (.ref a)
 |.type n=>some (.ty n)
 |_=>none
theorem RelV.abs {x:V}{u:Value}(r:RelV x u):zT9 u=some x:=by
 cases x with
 |non=>cases r;rfl
 |bl _=>cases r;rfl
 |int _=>obtain⟨t,rfl⟩:=r;rfl
 |str _=>obtain⟨t,rfl⟩:=r;rfl
 |byt _=>obtain⟨t,rfl⟩:=r;rfl
 |flt _=>obtain⟨t,rfl⟩:=r;rfl
 |ref _=>cases r;rfl
 |ty _=>cases r;rfl
theorem RelV.inj {x y:V}{u:Value}(r:RelV x u)(q:RelV y u):x=y:=z09 (r.abs.symm.trans q.abs)
theorem Vals.inj {xs ys:List V}{us:List Value}(h:Vals xs us)(k:Vals ys us):xs=ys:=by
 induction h generalizing ys with
 |nil=>cases k;rfl
 |cons r _ a=>cases k with
  |cons b t'=>rw[r.inj b,a t']
section
variable {X:Cx}{pins:List (Addr×Obj)}{σ:St}{H:Hp}{s:Shared}{a:Addr}{xs ys:List V}
theorem SqL.of {K:PySem.W.Frag}(h:H a=some (.lst xs)):SqL K H a xs:=.inl (.inl h)
theorem SqT.of {K:PySem.W.Frag}(h:H a=some (.tup xs)):SqT K H a xs:=.inl (.inl h)
theorem Inv.list (I:Inv X pins σ H s)(h:SqL X.K H a xs):∃its:List Value,Vals xs its/\PlainL s.heap a its.toArray/\xs.length<=sizeLine:=by
 rcases h with h|⟨o,its,n,hk,c,hd,b,hz,r⟩
 ·obtain⟨z,its,n,r,e⟩:=h.ok I.hok;exact⟨its,r,⟨_,n,e,rfl,rfl,rfl⟩,z⟩
 ·refine⟨its.toList,r,⟨o,n,I.kIn a o hk,c,hd,by simpa using b⟩,?_⟩;have e:=r.length;simp only[yh8]at e;exact zY8 (zZ7 e) hz
theorem Inv.tuple (I:Inv X pins σ H s)(h:SqT X.K H a xs):∃its:List Value,Vals xs its/\IsTup s.heap a its.toArray/\xs.length<=sizeLine:=by
 rcases h with h|⟨o,its,n,hk,c,b,hz,r⟩
 ·obtain⟨z,its,r,p⟩:=h.ok I.hok;exact⟨its,r,p,z⟩
 ·refine⟨its.toList,r,⟨o,I.kIn a o hk,c,n,by simpa using b⟩,?_⟩;have e:=r.length;simp only[yh8]at e;exact zY8 (zZ7 e) hz
theorem Inv.list_inj (I:Inv X pins σ H s)(h:SqL X.K H a xs)(h':SqL X.K H a ys):xs=ys:=by
 obtain⟨its,r,⟨o,n,e,_,_,d⟩,_⟩:=I.list h;obtain⟨its',c,⟨o',g,b,_,_,d'⟩,_⟩:=I.list h';rw[e]at b;cases b;rw[d]at d';injection d' with f _;have:its=its':=by simpa using congrArg Array.toList f
 subst this;exact r.inj c
end
abbrev Cx.wish (X:Cx)(E:Value->Shared->Prop):Cx:={X with xe:=E}
abbrev Cx.nox (X:Cx):Cx:=X.wish λ_ _=>False
theorem Cx.Ok.wish {X:Cx}(ok:X.Ok)(E:Value->Shared->Prop):(X.wish E).Ok:=
 ⟨ok.mod,ok.kind,ok.glob,ok.blt,ok.above,ok.inj,ok.has,ok.cab,ok.hd,ok.frames,ok.stk,ok.exf,ok.bs,ok.bsz,ok.noex,ok.exfs,ok.funs,ok.frf⟩
theorem Cx.Ok.unwish {X:Cx}{E:Value->Shared->Prop}(ok:(X.wish E).Ok):X.Ok:=
 ⟨ok.mod,ok.kind,ok.glob,ok.blt,ok.above,ok.inj,ok.has,ok.cab,ok.hd,ok.frames,ok.stk,ok.exf,ok.bs,ok.bsz,ok.noex,ok.exfs,ok.funs,ok.frf⟩
section
variable {X:Cx}{pins:List (Addr×Obj)}{σ:St}{H:Hp}{s:Shared}{E:Value->Shared->Prop}
theorem Inv.wish (I:Inv X pins σ H s)(E:Value->Shared->Prop):Inv (X.wish E) pins σ H s:=⟨I.ok.wish E,I.os,I.bare,I.base,I.loc,I.cell,I.free,I.freeC,I.pin,I.hok,I.len⟩
theorem Inv.unwish (I:Inv (X.wish E) pins σ H s):Inv X pins σ H s:=⟨I.ok.unwish,I.os,I.bare,I.base,I.loc,I.cell,I.free,I.freeC,I.pin,I.hok,I.len⟩
theorem SP.unwish {D:Ends}{f:Flow}{s':Shared}(h:SP (X.wish E) pins D f s'):SP X pins D f s':=by
 cases f with
 |next=>obtain⟨a,H',I,q⟩:=h;exact⟨a,H',I.unwish,q⟩
 |brk=>obtain⟨a,H',I,q⟩:=h;exact⟨a,H',I.unwish,q⟩
 |cont=>obtain⟨a,H',I,q⟩:=h;exact⟨a,H',I.unwish,q⟩
 |ret u=>obtain⟨v,a,H',I,r,q⟩:=h;exact⟨v,a,H',I.unwish,r,q⟩
theorem PSs.nox {st:List Stmt}{t:TS}(h:PSs X.nox st t):PSs X st t:=λpins s σ H D I hw=>
 z31 (h pins s σ H D (I.wish _) hw) (λ_ _ q=>q.unwish) λ_ _ z=>False.elim z
end
section
variable {X:Cx}{st:Stmt}{rest:List Stmt}{t u:TS}{e:Expr}{te:TE}{pos:Pos}
def zK3 :TS:=λD σ H=>D.nx σ H
def zO2 (t u:TS):TS:=λD σ H=>t {D with nx:=u D} σ H
theorem ik :PSs X [] zK3:=λ_ _ σ H _ I h=>yd4 ⟨σ,H,I,h⟩
theorem zv (b:PS X st t)(d:PSs X rest u):PSs X (st::rest) (zO2 t u):=by
 intro pins s σ H D I h;refine wpAny_execs_cons (thn (b pins s σ H {D with nx:=u D} I h) λf s1 q=>?_);cases f with
 |next=>
  obtain⟨a,H',c,q⟩:=q;exact d pins s1 a H' D c q
 |ret v=>exact q
 |brk=>exact q
 |cont=>exact q
theorem tZ (a:PS X st t):PSs X [st] t:=by
 intro pins s σ H D I h;refine wpAny_execs_cons (thn (a pins s σ H D I h) λf s1 q=>?_);cases f with
 |next=>exact yd4 q
 |ret v=>exact q
 |brk=>exact q
 |cont=>exact q
theorem Inv.quiet {pins:List (Addr×Obj)}{σ:St}{H:Hp}{s:Shared}(I:Inv X pins σ H s):interactive X.env=false:=by simp[interactive,I.ok.kind]
def zQ9 (te:TE):TS:=λD σ H=>te σ H λ_ H1=>D.nx σ H1
theorem pP (he:PE X e te)(b:swapsWith e none pos.line X.env=pure false:=by rfl):PS X (.Expr e pos) (zQ9 te):=by
 intro pins s σ H D I h;exact wpAny_Expr_any (thn (he pins s σ H _ I h) λv s1 a=>by obtain⟨x,H1,d,f,c⟩:=a;exact⟨σ,H1,d,c⟩) I.quiet b
def zW4 (te:TE):TS:=λD σ H=>te σ H D.rt
theorem uZ (he:PE X e te):PS X (.Return (some e) pos) (zW4 te):=by
 intro pins s σ H D I h;exact wpAny_Return_some (thn (he pins s σ H _ I h) λv s1 a=>by obtain⟨x,H1,c,d,b⟩:=a;exact⟨x,σ,H1,c,d,b⟩)
def zU9 (c:TT)(t u:TS):TS:=λD σ H=>c σ H λb H1=>if b=true then t D σ H1 else u D σ H1
theorem zw2 {c:Expr}{a b:List Stmt}{i:TT}(k:PT X c i)(ha:PSs X a t)(hb:PSs X b u):PS X (.If c a b pos) (zU9 i t u):=by
 intro pins s σ H D I h;refine wpAny_If (thn (k pins s σ H _ I h) λd s1 f=>?_);obtain⟨H1,g,j⟩:=f;cases d with
 |true=>exact ha pins s1 σ H1 D g j
 |false=>exact hb pins s1 σ H1 D g j
end
abbrev TG :=V->St->Hp->(St->Hp->Prop)->Prop
abbrev TGs :=List V->St->Hp->(St->Hp->Prop)->Prop
def PG (X:Cx)(target:Expr)(t:TG):Prop:=
 ∀(pins:List (Addr×Obj)) (s:Shared) (σ:St) (H:Hp) (v:V) (u:Value) (Q:St->Hp->Prop),Inv X pins σ H s->RelV v u->t v σ H Q->
  wpAny (model X.prog X.w) X.A (assign target X.env u) (λ_ s'=>∃a H',Inv X pins a H' s'/\Q a H') X.xe s
def PGs (X:Cx)(ts:List Expr)(t:TGs):Prop:=
 ∀(pins:List (Addr×Obj)) (s:Shared) (σ:St) (H:Hp) (vs:List V) (us:List Value) (Q:St->Hp->Prop),Inv X pins σ H s->Vals vs us->t vs σ H Q->
  wpAny (model X.prog X.w) X.A (assignInOrder ((assignEach ts X.env).map (·.2)) us) (λ_ s'=>∃a H',Inv X pins a H' s'/\Q a H') X.xe s
abbrev zE7 :=V->V->V->Hp->(Hp->Prop)->Prop
def zS7 (X:Cx)(t:zE7):Prop:=
 ∀(pins:List (Addr×Obj)) (s:Shared) (σ:St) (H:Hp) (o i v:V) (b a u:Value) (Q:Hp->Prop),Inv X pins σ H s->RelV o b->RelV i a->RelV v u->t o i v H Q->
  wpAny (model X.prog X.w) X.A (setItem b a u) (λ_ s'=>∃H',Inv X pins σ H' s'/\Q H') X.xe s
section
variable {X:Cx}{pos:Pos}
def sC (i:Nat):TG:=λv σ H Q=>Q (σ.set i (some v)) H
theorem ya {i:Nat}{x:Str}(b:X.N.Nodup)(hi:X.N[i]?=some x)(c:Loc X.env.scope x)(hf:X.fn x=true\/X.env.scope.names.lookup x=some .local:=by first|exact .inl rfl|exact .inr rfl|assumption):PG X (.Name x pos) (sC i):=by
 intro pins s σ H v u Q I r h;exact wpAny_assign_Name (oZ I b hi c r (λs' a=>⟨_,H,a,h⟩) hf)
def zC6 :TGs:=λvs σ H Q=>vs=[]/\Q σ H
def ib (t:TG)(u:TGs):TGs:=λvs σ H Q=>∃v r,vs=v::r/\t v σ H λa H'=>u r a H' Q
theorem uF :PGs X [] zC6:=by
 intro pins s σ H vs us Q I r h;obtain⟨e,h⟩:=h;subst e;cases r;exact assignInOrder_nil ⟨σ,H,I,h⟩
theorem wC {e:Expr}{b:List Expr}{t:TG}{u:TGs}(f:PG X e t)(k:PGs X b u)
  (j:(assignEach (e::b) X.env).map (·.2)=assign e X.env::(assignEach b X.env).map (·.2):=by rfl):PGs X (e::b) (ib t u):=by
 intro pins s σ H vs us Q I r h;obtain⟨v,l,e1,h⟩:=h;subst e1;cases r with
 |cons r i=>
  rw[j];refine assignInOrder_cons (thn (f pins s σ H _ _ _ I r h) λ_ s1 a=>?_);obtain⟨c,H1,d,g⟩:=a;exact k pins s1 c H1 _ _ Q d i g
def aE (K:PySem.W.Frag)(n:Nat)(t:TGs):TG:=λv σ H Q=>∃a xs,v=.ref a/\SqT K H a xs/\xs.length=n/\t xs σ H Q
theorem zI4 {c:List Expr}{k:Nat}{t:TGs}{n:Nat}(j:X.calm=true)(h:PGs X c t)
  (hn:(assignEach c X.env).length=n:=by rfl) (d:(assignEach c X.env).findIdx? (·.1)=none:=by rfl):PG X (.Tuple c k pos) (aE X.K n t):=by
 intro pins s σ H v u Q I r hw;obtain⟨a,xs,e1,hq,l,hw⟩:=hw;subst e1;cases r;obtain⟨its,f,m,hz⟩:=I.tuple hq;refine assign_Tuple_tuple (I.ok.hd j) m (by simp[hn,<-l,f.length]) d λh' i=>?_;have g:Inv X pins σ H {s with heap:=h'}:=I.kept (t':=s.toks) λb o e=>i b o (z01 (zY6 e)) e;exact h pins _ σ H xs _ Q g (by simpa using f) hw
def zJ9 (to ti:TE)(t:zE7):TG:=λv σ H Q=>to σ H λo H1=>ti σ H1 λi a=>t o i v a λH3=>Q σ H3
theorem jw {o i:Expr}{to ti:TE}{t:zE7}(g:PE X o to)(hi:PE X i ti)(j:zS7 X t)
  (ha:∀v,assign (.Subscript o i pos) X.env v=(do
   let a <-holding [v] (eval o X.env)
   let b <-holding [v,a] (eval i X.env)
   standAt pos
   holding [v,a,b] (setItem a b v)
   release [v,a,b] []):=by intro _;rfl):PG X (.Subscript o i pos) (zJ9 to ti t):=by
 intro pins s σ H v u Q I r h;rw[ha];refine zX6 (z41 (thn (g pins s σ H _ I h) λa s1 d=>?_));obtain⟨x,H1,n,l,w⟩:=d;refine zX6 (z41 (thn (hi pins s1 σ H1 _ n w) λb s2 e=>?_));obtain⟨y,p,q,f,z⟩:=e;refine zX6 (yc9 (zX6 (z41 (thn (j pins s2 σ p x y v a b u _ q l f r z) λ_ s3 c=>?_))));obtain⟨H3,m,k⟩:=c;exact wpAny_release ⟨σ,H3,m,k⟩
def zI5 (a:TE)(g:TG):TS:=λD σ H=>a σ H λx H1=>g x σ H1 D.nx
theorem jc {tg e:Expr}{b:TE}{g:TG}(he:PE X e b)(hg:PG X tg g)(i:swapsWithSole [tg] e pos.line X.env=pure false:=by rfl)(hw:swappedStores [tg] e X.env=pure none:=by rfl)
  (d:(assignEach [tg] X.env).map (·.2)=[assign tg X.env]:=by rfl):PS X (.Assign [tg] e pos) (zI5 b g):=by
 intro pins s σ H D I h;refine wpAny_Assign_stores (thn (he pins s σ H _ I h) λv s1 a=>?_) i hw;obtain⟨x,H1,c,j,f⟩:=a;rw[d];exact thn (hg pins s1 σ H1 x v _ c j f) λ_ s2 q=>q
theorem uU {i:Nat}{x:Str}{e:Expr}{b:TE}{pos':Pos}(c:X.N.Nodup)(hi:X.N[i]?=some x)(j:Loc X.env.scope x)(he:PE X e b)(k:swapsWith e (some (.Name x pos')) pos.line X.env=pure false:=by rfl)(hf:X.fn x=true\/X.env.scope.names.lookup x=some .local:=by first|exact .inl rfl|exact .inr rfl|assumption):
  PS X (.Assign [.Name x pos'] e pos) (zI5 b (sC i)):=by
 intro pins s σ H D I h;refine wpAny_Assign_Name (thn (he pins s σ H _ I h) λv s1 a=>?_) k;obtain⟨y,H1,d,l,g⟩:=a;exact oZ d c hi j l (λs2 f=>⟨_,H1,f,g⟩) hf
end
section
variable {X:Cx}{pos:Pos}
def zG6 (c:TT)(e:TS):TS:=λD σ H=>∃W:Nat->St->Hp->Prop,(∃m,W m σ H)/\∀m σ H,W m σ H->
 c σ H λb H1=>if b=true then ∃N:St->Hp->Prop,(∀a H',N a H'->∃d,d<m/\W d a H')/\e {D with nx:=N,ct:=N,bk:=D.nx} σ H1 else D.nx σ H1
theorem aP {c:Expr}{body:List Stmt}{q:TT}{r:TS}(p:PassesOwn (model X.prog X.w) X.A X.env X.xe)(z:PT X c q)(hb:PSs X body r):PS X (.While c body [] pos) (zG6 q r):=by
 intro pins s σ H D I h;obtain⟨W,⟨m0,B⟩,turn⟩:=h;refine wpAny_While (codeAny_whileLoop (λn s'=>∃g H',Inv X pins g H' s'/\W n g H') ?_ m0 ⟨σ,H,I,B⟩);rintro n s1 ⟨d,H1,C,y⟩;refine z98 p (thn (z pins s1 d H1 _ C (turn n d H1 y)) λb s2 e=>?_);obtain⟨t,u,j⟩:=e;cases b with
 |true=>
  obtain⟨N,x,j⟩:=j;rw[if_pos rfl];refine z98 p (thn (hb pins s2 d t _ u j) λf s3 i=>?_);cases f with
  |next=>
   obtain⟨a,H3,o,k⟩:=i;obtain⟨l,hm,m⟩:=x a H3 k;exact⟨l,hm,a,H3,o,m⟩
  |cont=>
   obtain⟨a,H3,o,k⟩:=i;obtain⟨l,hm,m⟩:=x a H3 k;exact⟨l,hm,a,H3,o,m⟩
  |brk=>exact i
  |ret v=>exact i
 |false=>
  rw[if_neg z03];exact yd4 ⟨d,t,u,j⟩
end
structure It where
 go:Nat->Hp->Prop
 yld:Nat->Hp->V->Hp->Prop
 stop:Nat->Hp->Prop
def yW (X:Cx)(pins:List (Addr×Obj))(H:Hp)(b:Addr):Prop:=
 H b=none/\b≠X.env.locals/\b∉X.fs/\(b∈X.ex\/X.s₀.heap.objs.size<=b)/\(∀x c,X.env.cells.lookup x=some c->c≠b)/\∀p∈X.pn++pins,p.1≠b
theorem Inv.fpOk {X:Cx}{pins:List (Addr×Obj)}{σ:St}{H H':Hp}{s:Shared}{b:Addr}(I:Inv X pins σ H s)(hb:s.heap.objs.size<=b)(hn:H' b=none):yW X pins H' b:=by
 refine⟨hn,z70 (zX9 I.lt hb),I.nofs hb,.inr (zY8 I.sz hb),λx c e z=>?_,λp a z=>?_⟩
 ·obtain⟨v,q⟩:=I.cell x c e;exact absurd (zX9 q.lt (by rw[z];exact hb)) (z36 _)
 ·exact absurd (zX9 (zY6 (I.pin p a).1) (by rw[z];exact hb)) (z36 _)
structure Turn (P:Program)(w:World)(K:PySem.W.Frag)(tg:Expr)(J:It)(fp:List Addr)(it:Addr)(tn:Nat->Heap->Prop):Prop where
 mem:it∈fp
 obj:∀i h,tn i h->∀b∈fp,∃o,h.get? b=some o/\∀v,o.data≠.cell v
 keep:∀i h h',tn i h->(∀b∈fp,∀o,h.get? b=some o->h'.get? b=some o)->tn i h'
 item:∀(X:Cx),X.prog=P->X.w=w->X.K=K->X.calm=true->∀(i:Nat) (pins:List (Addr×Obj)) (s:Shared) (σ:St) (H:Hp) (E:Value->Shared->Prop),Inv X pins σ H s->(∀b∈fp,yW X pins H b)->tn i s.heap->J.go i H->
  wpAny (model P w) X.A (pyNext (.ref it)) (λr s1=>∃u,r=some u/\
   wpAny (model P w) X.A (letOwnedTupleGo tg (.ref it) u) (λ_ s2=>∃x H',Inv X pins σ H' s2/\RelV x u/\J.yld i H x H'/\tn (i+1) s2.heap/\∀b∈fp,H' b=none) E s1) E s
 done:∀(X:Cx),X.prog=P->X.w=w->X.K=K->X.calm=true->∀(i:Nat) (pins:List (Addr×Obj)) (s:Shared) (σ:St) (H:Hp) (E:Value->Shared->Prop),Inv X pins σ H s->(∀b∈fp,yW X pins H b)->tn i s.heap->J.stop i H->
  wpAny (model P w) X.A (pyNext (.ref it)) (λr s1=>r=none/\Inv X pins σ H s1) E s
 self:∀(A:Around) (i:Nat) (s:Shared) (Q:Value->Shared->Prop) (E:Value->Shared->Prop),tn i s.heap->Q (.ref it) s->wpAny (model P w) A (pyIter (.ref it)) Q E s
abbrev TI :=St->Hp->(It->Hp->Prop)->Prop
def PIE (X:Cx)(pins:List (Addr×Obj))(σ:St)(tg:Expr)(R:It->Hp->Prop)(a:Value)(s2:Shared):Prop:=
 ∃(it:Addr) (fp:List Addr) (tn:Nat->Heap->Prop) (J:It) (H':Hp),a=.ref it/\Inv X pins σ H' s2/\Turn X.prog X.w X.K tg J fp it tn/\tn 0 s2.heap/\(∀b∈fp,yW X pins H' b)/\R J H'
def PI (X:Cx)(tg iter:Expr)(a:TI):Prop:=
 ∀(pins:List (Addr×Obj)) (s:Shared) (σ:St) (H:Hp) (R:It->Hp->Prop),Inv X pins σ H s->a σ H R->
  wpAny (model X.prog X.w) X.A (eval iter X.env) (λv s1=>wpAny (model X.prog X.w) X.A (pyIter v) (PIE X pins σ tg R) X.xe s1) X.xe s
theorem nF {M:Model}{A:Around}{E:Value->Shared->Prop}{s:Shared}{tg:Expr}{it:Addr}{u:Value}{o:Obj}{n:String}{vs:Array Value}{Q:Unit->Shared->Prop}(b:s.heap.get? it=some o)(c:o.cls=.type n)(hd:o.data=.fields vs)
  (hn:["enumerate","zip","dict_itemiterator","dict_reverseitemiterator","odict_iterator","itertools.zip_longest","itertools.pairwise"].contains n=false) (a:Q () s):wpAny M A (letOwnedTupleGo tg (.ref it) u) Q E s:=by
 unfold letOwnedTupleGo;cases tg<;>first
  |exact zY4 a
  |(cases u<;>first
    |exact zY4 a
    |(refine zX6 (wpAny_load b ?_)
      rw[c,hd];show wpAny M A (if(["enumerate","zip","dict_itemiterator","dict_reverseitemiterator","odict_iterator","itertools.zip_longest","itertools.pairwise"].contains n&&vs[0]? == some (rawInt _))=true then _ else _) Q E s;rw[if_neg (by intro h;rw[hn,yb4]at h;cases h)];exact zY4 a))
def Itl (K:PySem.W.Frag)(a:Addr):It:=
 ⟨λi H=>∃xs x,SqL K H a xs/\xs[i]?=some x,λi H x H'=>H'=H/\∀xs,SqL K H a xs->xs[i]?=some x,λi H=>∃xs,SqL K H a xs/\xs.length<=i⟩
def Itr (lo:Int)(n:Nat):It:=⟨λi _=>i<n,λi H x H'=>H'=H/\x=.int (lo+i),λi _=>n<=i⟩
theorem hU {P:Program}{w:World}{K:PySem.W.Frag}{tg:Expr}(a it:Addr):Turn P w K tg (Itl K a) [it] it (λi h=>h.IsListIter it a i) where
 mem:=by simp
 obj:=λi h st b hb=>by
  have e:b=it:=by simpa using hb
  subst e;obtain⟨o,e,c,d⟩:=st;exact⟨o,e,λv z=>by rw[d]at z;cases z⟩
 keep:=λi h h' st k=>st.at λo e=>k it (by simp) o e
 item:=by
  intro X n hw hK q i pins s σ H E I hf st hg;subst n hw hK;obtain⟨xs,x,hq,g⟩:=hg;obtain⟨its,m,p,hz⟩:=I.list hq;obtain⟨u,B,r⟩:=m.get g;obtain⟨f0,f1,f2,j,f4,l⟩:=hf it (by simp);refine wpAny_pyNext_list_item st p.isList (x:=u) (by simpa using B) λh' f t=>?_;have A:Inv X pins σ H {s with heap:=h'}:=I.turned (t':=s.toks) (λb o hb e=>(t.2 b hb).trans e) f0 f1 j f4 l;obtain⟨o,e,c,d⟩:=id f;exact⟨u,rfl,nF (s:={s with heap:=h'}) e c d (by decide) ⟨x,H,A,r,⟨rfl,λys hy=>by rw[I.list_inj hy hq];exact g⟩,f,λb hb=>(hf b hb).1⟩⟩
 done:=by
  intro X n hw hK q i pins s σ H E I hf st hg;subst n hw hK;obtain⟨xs,hq,g⟩:=hg;obtain⟨its,m,p,hz⟩:=I.list hq;obtain⟨f0,f1,f2,j,f4,l⟩:=hf it (by simp);have y:=m.length;exact wpAny_pyNext_list_end (I.ok.hd q) st p.isList (by simp;exact zY8 (zZ7 y.symm) g) λh' C=>⟨rfl,I.turned (t':=s.toks) (λb o hb e=>C b o hb e) f0 f1 j f4 l⟩
 self:=λ_ _ _ _ _ st h=>wpAny_pyIter_listiter st h
theorem kr {P:Program}{w:World}{K:PySem.W.Frag}{tg:Expr}(it:Addr)(lo:Int)(n:Nat):Turn P w K tg (Itr lo n) [it] it (λi h=>IsRangeIter h it (lo+(i:Nat)*1) ((n:Int)-(i:Nat)) 1) where
 mem:=by simp
 obj:=λi h st b hb=>by
  have e:b=it:=by simpa using hb
  subst e;exact⟨_,st,λv z=>by
   have l:Data.fields _=Data.cell v:=z;cases l⟩
 keep:=λi h h' st k=>k it (by simp) _ st
 item:=by
  intro X g hw hK f i pins s σ H E I hf st hg;subst g hw hK;obtain⟨f0,f1,f2,c,f4,d⟩:=hf it (by simp);have W:=Walks.range (prog:=X.prog) (w:=X.w) (I.ok.hd f) it lo 1 n;refine W.item i s _ _ hg st λv h' tk p a j=>?_;obtain⟨t,rfl⟩:=p;have m:Inv X pins σ H {s with heap:=h',toks:=tk}:=I.turned (λb o hb e=>j b o (by simpa using hb) e) f0 f1 c f4 d;refine⟨_,rfl,nF (s:={s with heap:=h',toks:=tk}) (n:="range_iterator") a rfl rfl (by decide) ⟨.int (lo+i),H,m,⟨t,?_⟩,⟨rfl,rfl⟩,a,λb hb=>(hf b hb).1⟩⟩;rw[Int.mul_one]
 done:=by
  intro X g hw hK f i pins s σ H E I hf st hg;subst g hw hK;obtain⟨f0,f1,f2,c,f4,d⟩:=hf it (by simp);exact wpAny_pyNext_range_end (I.ok.hd f) st (by have:n<=i:=hg;exact zJ8 this) λh' q=>⟨rfl,I.turned (t':=s.toks) (λb o hb e=>q b o hb e) f0 f1 c f4 d⟩
 self:=λ_ _ _ _ _ st h=>wpAny_pyIter_rangeiter st h
section
variable {X:Cx}{tg:Expr}
def zR4 (K:PySem.W.Frag)(b:TE):TI:=λσ H R=>b σ H λx H1=>∃a,x=.ref a/\(∃xs,SqL K H1 a xs)/\R (Itl K a) H1
theorem ip {l:Expr}{f:TE}(j:PE X l f):PI X tg l (zR4 X.K f):=by
 intro pins s σ H R I h;refine thn (j pins s σ H _ I h) λv s1 c=>?_;obtain⟨x,H1,d,g,i⟩:=c;obtain⟨a,e,⟨xs,hq⟩,q⟩:=i;subst e;cases g;obtain⟨its,k,p,hz⟩:=d.list hq;refine z74 p.isList ?_;refine⟨s1.heap.objs.size,[s1.heap.objs.size],_,_,H1,rfl,d.kept (t':=s1.toks) λb o e=>zX7 _ e,hU a _,⟨_,zZ0 _ rfl,rfl,rfl⟩,λb hb=>?_,q⟩;have e:b=s1.heap.objs.size:=by simpa using hb
 subst e;exact d.fpOk (zY3 _) (d.hok.fresh (zY3 _))
theorem nr {pins:List (Addr×Obj)}{σ:St}{H:Hp}{s:Shared}{R:It->Hp->Prop}{E:Value->Shared->Prop}{lo hi:Int}{t u v:Tok}{tk:Nat}(I:Inv X pins σ H s)(c:-(2 ^ 62)<=lo)(h:lo<2 ^ 62)(f:-(2 ^ 62)<=hi)(d:hi<2 ^ 62)
  (q:R (Itr lo (hi-lo).toNat) H):wpAny (model X.prog X.w) X.A (pyIter (.ref s.heap.objs.size)) (PIE X pins σ tg R) E {s with heap:=s.heap.push {cls:=.type "range",data:=.fields #[.int lo t,.int hi u,.int 1 v]},toks:=tk}:=by
 refine wpAny_pyIter_range (IsRange.new ..) (small_one c h f d) ?_;have a:Inv X pins σ H {s with heap:=s.heap.push {cls:=.type "range",data:=.fields #[.int lo t,.int hi u,.int 1 v]},toks:=tk}:=I.kept λb o e=>zX7 _ e;refine⟨(s.heap.push {cls:=.type "range",data:=.fields #[.int lo t,.int hi u,.int 1 v]}).objs.size,[(s.heap.push {cls:=.type "range",data:=.fields #[.int lo t,.int hi u,.int 1 v]}).objs.size],_,_,H,rfl,
  a.kept (t':=tk) λb o e=>zX7 _ e,kr _ lo (hi-lo).toNat,?_,λb hb=>?_,q⟩
 ·have e1:lo+((0:Nat):Int)*1=lo:=by simp
  have g:(((hi-lo).toNat:Nat):Int)-((0:Nat):Int)=Builtin.Range.rangeSize lo hi 1:=by rw[rangeSize_one];split<;>lia
  show IsRangeIter _ _ (lo+((0:Nat):Int)*1) ((((hi-lo).toNat:Nat):Int)-((0:Nat):Int)) 1;rw[e1,g];exact zZ0 _ rfl
 ·have e:b=(s.heap.push {cls:=.type "range",data:=.fields #[.int lo t,.int hi u,.int 1 v]}).objs.size:=by simpa using hb
  subst e;exact a.fpOk (zY3 _) (a.hok.fresh (zY3 _))
def zN2 (a:TA):TI:=λσ H R=>a σ H λvs H1=>∃j:Int,vs=[.int j]/\-(2 ^ 62)<=j/\j<2 ^ 62/\R (Itr 0 j.toNat) H1
def zK1 (a:TA):TI:=λσ H R=>a σ H λvs H1=>∃i j:Int,vs=[.int i,.int j]/\(-(2 ^ 62)<=i/\i<2 ^ 62/\-(2 ^ 62)<=j/\j<2 ^ 62)/\R (Itr i (j-i).toNat) H1
theorem gH {a:Expr}{d:TA}{p pos:Pos}(hg:Gl X "range")(hm:X.mg "range"=none)(ha:PA X [a] d)(k:starEach [a] X.env=[(false,eval a X.env)]:=by rfl):PI X tg (.Call (.Name "range" p) [a] [] pos) (zN2 d):=by
 intro pins s σ H R I h;refine Call_ (yU I hg hm boot_range (z32 (thn (ha pos pins s σ H _ I h) λus s1 b=>?_) k rfl));obtain⟨vs,H1,f,l,c⟩:=b;obtain⟨j,e,c,g,q⟩:=c;subst e;cases l with
 |cons r i=>
  cases i;obtain⟨t,rfl⟩:=r;exact call_range_1 (nr f (by decide) (by decide) c g (by simpa using q))
theorem fP {a b:Expr}{g:TA}{p pos:Pos}(hg:Gl X "range")(hm:X.mg "range"=none)(ha:PA X [a,b] g)(k:starEach [a,b] X.env=[(false,eval a X.env),(false,eval b X.env)]:=by rfl)(c:starEach [b] X.env=[(false,eval b X.env)]:=by rfl):
  PI X tg (.Call (.Name "range" p) [a,b] [] pos) (zK1 g):=by
 intro pins s σ H R I h;refine Call_ (yU I hg hm boot_range (z32 (thn (ha pos pins s σ H _ I h) λus s1 ⟨vs,H1,n,m,d⟩=>?_) (by rw[k,c]) (by rw[c];rfl)));obtain⟨i,j,e,⟨d,o,l,u⟩,q⟩:=d;subst e;cases m with
 |cons r f=>
  cases f with
  |cons v f=>
   cases f;obtain⟨t,rfl⟩:=r;obtain⟨t',rfl⟩:=v;exact call_range_2 (nr n d o l u q)
def zV6 (c:TI)(g:TG)(d:TS):TS:=λD σ H=>c σ H λJ H1=>∃W:Nat->Nat->St->Hp->Prop,(∃m,W 0 m σ H1)/\∀i m σ H,W i m σ H->
 (J.stop i H/\D.nx σ H)\/(J.go i H/\∃N:St->Hp->Prop,(∀a H',N a H'->∃b,b<m/\W (i+1) b a H')/\∀x H',J.yld i H x H'->g x σ H' λσ2 e=>d {D with nx:=N,ct:=N,bk:=D.nx} σ2 e)
def sN (fp:List Addr)(h:Heap):List (Addr×Obj):=fp.filterMap λb=>(h.get? b).map λo=>(b,o)
theorem wK {fp:List Addr}{h:Heap}{b:Addr}{o:Obj}(hb:b∈fp)(e:h.get? b=some o):(b,o)∈sN fp h:=List.mem_filterMap.mpr ⟨b,hb,by rw[e];rfl⟩
theorem gF {fp:List Addr}{h:Heap}{p:Addr×Obj}(c:p∈sN fp h):p.1∈fp/\h.get? p.1=some p.2:=by
 obtain⟨b,hb,e⟩:=List.mem_filterMap.mp c;cases q:h.get? b with
 |none=>rw[q]at e;cases e
 |some o=>
  rw[q]at e;have a:(b,o)=p:=z09 e;subst a;exact⟨hb,q⟩
theorem Inv.pinned {pins:List (Addr×Obj)}{σ:St}{H:Hp}{s:Shared}{fp:List Addr}(I:Inv X pins σ H s)(hf:∀b∈fp,yW X pins H b)(c:∀b∈fp,∃o,s.heap.get? b=some o/\∀v,o.data≠.cell v):Inv X (pins++sN fp s.heap) σ H s:=
 I.pins_of λp f=>(z05.mp f).elim (λz=>I.pin p (z25 _ z)) λz=>by
  obtain⟨hb,e⟩:=gF z;obtain⟨f0,f1,f2,_⟩:=hf p.1 hb;obtain⟨o,a,d⟩:=c p.1 hb;rw[e]at a;cases a;exact⟨e,f0,f1,f2,d⟩
theorem Inv.unpinned {pins pl:List (Addr×Obj)}{σ:St}{H:Hp}{s:Shared}(I:Inv X (pins++pl) σ H s):Inv X pins σ H s:=I.pins_of λp a=>I.pin p (z25 _ (z52 _ a))
theorem eY {iter:Expr}{body:List Stmt}{U:TI}{g:TG}{Y:TS}{pos:Pos}(y:PassesOwn (model X.prog X.w) X.A X.env X.xe)(S:X.calm=true)(hi:PI X tg iter U)(hg:PG X tg g)(hb:PSs X body Y)
  (hs:∀x,foldedSetIterable iter X.env x=pure x:=by intro _;rfl):PS X (.For tg iter body [] pos) (zV6 U g Y):=by
 intro pins s σ H D I h;refine wpAny_For (thn (hi pins s σ H _ I h) λv s1 h1=>thn h1 λa0 s2 h2=>?_) hs;obtain⟨it,fp,tn,J,H2,e,I2,T,M,f2,W,⟨m0,w0⟩,turn⟩:=h2;subst e
 -- what stays true of the iterator's objects through the loop
 have k:∀{H':Hp},(∀b∈fp,H' b=none)->∀b∈fp,yW X pins H' b:=λhn b hb=>⟨hn b hb,(f2 b hb).2⟩;refine codeAny_forLoop_any (λn s'=>∃i j H',Inv X pins j H' s'/\tn i s'.heap/\(∀b∈fp,H' b=none)/\W i n j H') ?_ m0 ⟨0,σ,H2,I2,M,λb hb=>(f2 b hb).1,w0⟩;rintro n s3 ⟨i,l,H3,V,E,K,w3⟩;rcases turn i n l H3 w3 with⟨stop,qn⟩|⟨go,N,hN,step⟩
 ·refine z98 y (thn (T.done X rfl rfl rfl S i pins s3 l H3 X.xe V (k K) E stop) λr s4 C=>?_);obtain⟨hr,I4⟩:=C;subst hr;exact yd4 ⟨l,H3,I4,qn⟩
 ·refine z98 y (thn (T.item X rfl rfl rfl S i pins s3 l H3 X.xe V (k K) E go) λr s4 z=>?_);obtain⟨u,hr,h4⟩:=z;subst hr;refine z98 y (thn h4 λ_ s5 G=>?_);obtain⟨x,R,I5,r5,y5,t,O⟩:=G;have P:=I5.pinned (k O) (T.obj _ _ t);refine z98 y (thn (hg _ s5 l R x u _ P r5 (step x R y5)) λ_ s6 B=>?_);obtain⟨Q,H6,I6,Z⟩:=B;refine z98 y (thn (hb _ s6 Q H6 _ I6 Z) λf L q=>?_);have again:∀{a:St} {c:Hp},Inv X (pins++sN fp s5.heap) a c L->N a c->∃m,m<n/\∃i j H',Inv X pins j H' L/\tn i L.heap/\(∀b∈fp,H' b=none)/\W i m j H':=λ{a c} p F=>by
   obtain⟨m',hm,w7⟩:=hN a c F;refine⟨m',hm,i+1,a,c,p.unpinned,T.keep _ _ _ t λb hb o e=>(p.pin (b,o) (z25 _ (z25 _ (wK hb e)))).1,λb hb=>?_,w7⟩;obtain⟨o,e,d⟩:=T.obj _ _ t b hb;exact(p.pin (b,o) (z25 _ (z25 _ (wK hb e)))).2.1
  cases f with
  |next=>obtain⟨a,c,p,F⟩:=q;exact again p F
  |cont=>obtain⟨a,c,p,F⟩:=q;exact again p F
  |brk=>obtain⟨a,c,p,q⟩:=q;exact⟨a,c,p.unpinned,q⟩
  |ret v=>obtain⟨x7,a,c,p,r7,q⟩:=q;exact⟨x7,a,c,p.unpinned,r7,q⟩
end
abbrev R2 :=V->V->Hp->VK->Prop
def OpR (X:Cx)(f:Value->Value->Sem Value)(r:R2):Prop:=
 ∀(pins:List (Addr×Obj)) (s:Shared) (σ:St) (H:Hp) (x y:V) (v u:Value) (Q:VK),Inv X pins σ H s->RelV x v->RelV y u->r x y H Q->
  wpAny (model X.prog X.w) X.A (f v u) (EP X pins σ Q) X.xe s
def UnR (X:Cx)(f:Value->Sem Value)(r:V->Hp->VK->Prop):Prop:=
 ∀(pins:List (Addr×Obj)) (s:Shared) (σ:St) (H:Hp) (x:V) (v:Value) (Q:VK),Inv X pins σ H s->RelV x v->r x H Q->
  wpAny (model X.prog X.w) X.A (f v) (EP X pins σ Q) X.xe s
def xi (X:Cx)(f:Value)(r:List V->Hp->VK->Prop):Prop:=
 ∀(pins:List (Addr×Obj)) (s:Shared) (σ:St) (H:Hp) (xs:List V) (us:List Value) (Q:VK),Inv X pins σ H s->Vals xs us->r xs H Q->
  wpAny (model X.prog X.w) X.A (call f us) (EP X pins σ Q) X.xe s
def zU8 (X:Cx)(r:V->Hp->(Bool->Hp->Prop)->Prop):Prop:=
 ∀(pins:List (Addr×Obj)) (s:Shared) (σ:St) (H:Hp) (x:V) (v:Value) (Q:Bool->Hp->Prop),Inv X pins σ H s->RelV x v->r x H Q->
  wpAny (model X.prog X.w) X.A (truthy v) (TP X pins σ Q) X.xe s
def tOp (r:R2)(b a:TE):TE:=λσ H Q=>b σ H λx H1=>a σ H1 λy c=>r x y c Q
def tUn (r:V->Hp->VK->Prop)(a:TE):TE:=λσ H Q=>a σ H λx H1=>r x H1 Q
def rI (C:Int->Int->Prop)(g:Int->Int->V):R2:=λx y H Q=>∃i j,x=.int i/\y=.int j/\C i j/\Q (g i j) H
def rI0 (g:Int->Int->V):R2:=λx y H Q=>∃i j,x=.int i/\y=.int j/\Q (g i j) H
def rU (g:Int->V):V->Hp->VK->Prop:=λx H Q=>∃i,x=.int i/\Q (g i) H
section
variable {X:Cx}{a b c:Expr}{ta tb tc:TE}{pos:Pos}
theorem zC2 (ha:PE X a ta)(hb:PE X b tb){pins:List (Addr×Obj)}{s:Shared}{σ:St}{H:Hp}{R:V->V->Hp->Prop}(I:Inv X pins σ H s)
  (h:ta σ H λx H1=>tb σ H1 λy d=>R x y d) {Q:Value->Shared->Prop} {f:Value->Value->Sem Value}
  (hf:∀v u s2 x y d,Inv X pins σ d s2->RelV x v->RelV y u->R x y d->wpAny (model X.prog X.w) X.A (f v u) Q X.xe s2):
  wpAny (model X.prog X.w) X.A (eval a X.env) (λv j=>wpAny (model X.prog X.w) X.A (eval b X.env) (λu g=>wpAny (model X.prog X.w) X.A (f v u) Q X.xe g) X.xe j) X.xe s:=by
 refine thn (ha pins s σ H _ I h) λv s1 i=>?_;obtain⟨x,H1,l,p,n⟩:=i;refine thn (hb pins s1 σ H1 _ l n) λu s2 e=>?_;obtain⟨y,d,m,k,o⟩:=e;exact hf v u s2 x y d m p k o
theorem xk {op:Operator}{r:R2}(d:OpR X (binaryOp op) r)(ha:PE X a ta)(hb:PE X b tb):PE X (.BinOp a op b pos) (tOp r ta tb):=by
 intro pins s σ H Q I h;exact wpAny_BinOp (zC2 ha hb I h λv u s2 x y f g i e q=>d pins s2 σ f x y v u Q g i e q)
theorem zz3 {op:UnaryOp}{r:V->Hp->VK->Prop}(e:UnR X (unaryOp op) r)(ha:PE X a ta):PE X (.UnaryOp op a pos) (tUn r ta):=by
 intro pins s σ H Q I h;exact UnaryOp_ (thn (ha pins s σ H _ I h) λv s1 d=>by obtain⟨x,H1,f,i,g⟩:=d;exact e pins s1 σ H1 x v Q f i g)
theorem opI {f:Value->Value->Sem Value}{C:Int->Int->Prop}{g:Int->Int->Int}
  (rule:∀(i j:Int) (t u:Tok) (s:Shared) (Q:Value->Shared->Prop) (E:Value->Shared->Prop),C i j->Q (.int (g i j) s.toks) {s with toks:=s.toks+1}->wpAny (model X.prog X.w) X.A (f (.int i t) (.int j u)) Q E s):
  OpR X f (rI C λi j=>.int (g i j)):=by
 intro pins s σ H x y v u Q I k d h;obtain⟨i,j,rfl,rfl,e,q⟩:=h;obtain⟨t,rfl⟩:=k;obtain⟨t',rfl⟩:=d;exact rule i j t t' s _ _ e ⟨.int (g i j),H,I.tok _,⟨_,rfl⟩,q⟩
theorem zP3 {f:Value->Value->Sem Value}{g:Int->Int->Int}
  (rule:∀(i j:Int) (t u:Tok) (s:Shared) (Q:Value->Shared->Prop) (E:Value->Shared->Prop),Q (.int (g i j) s.toks) {s with toks:=s.toks+1}->wpAny (model X.prog X.w) X.A (f (.int i t) (.int j u)) Q E s):
  OpR X f (rI0 λi j=>.int (g i j)):=by
 intro pins s σ H x y v u Q I e d h;obtain⟨i,j,rfl,rfl,q⟩:=h;obtain⟨t,rfl⟩:=e;obtain⟨t',rfl⟩:=d;exact rule i j t t' s _ _ ⟨.int (g i j),H,I.tok _,⟨_,rfl⟩,q⟩
theorem zr4 {f:Value->Value->Sem Value}{g:Int->Int->Bool}
  (rule:∀(i j:Int) (t u:Tok) (s:Shared) (Q:Value->Shared->Prop) (E:Value->Shared->Prop),Q (.bool (g i j)) s->wpAny (model X.prog X.w) X.A (f (.int i t) (.int j u)) Q E s):
  OpR X f (rI0 λi j=>.bl (g i j)):=by
 intro pins s σ H x y v u Q I e d h;obtain⟨i,j,rfl,rfl,q⟩:=h;obtain⟨t,rfl⟩:=e;obtain⟨t',rfl⟩:=d;exact rule i j t t' s _ _ ⟨.bl (g i j),H,I,rfl,q⟩
def zI9 (i j:Int):Prop:=0<=j/\j<=1000000/\i.natAbs<2 ^ 64
def zl0 (i j:Int):Prop:=(-(2 ^ 64)<i/\i<2 ^ 64)\/(-(2 ^ 64)<j/\j<2 ^ 64)
theorem zl0.ok {i j:Int}(h:zl0 i j):IntMulOk i j:=by
 rcases h with⟨e,d⟩|⟨e,d⟩
 ·exact .of_left (intBits_le_64 e d)
 ·exact .of_right (intBits_le_64 e d)
theorem pX :OpR X (binaryOp .Add) (rI0 λi j=>.int (i+j)):=zP3 λ_ _ _ _ _ _ _ q=>add_int q
theorem zI3 :OpR X (binaryOp .Sub) (rI0 λi j=>.int (i-j)):=zP3 λ_ _ _ _ _ _ _ q=>sub_int q
theorem om :OpR X (binaryOp .Mult) (rI zl0 λi j=>.int (i*j)):=opI λ_ _ _ _ _ _ _ d q=>mul_int q d.ok
theorem rK :OpR X (binaryOp .Mod) (rI (λ_ j=>0<j) λi j=>.int (i % j)):=opI λi j _ _ _ _ _ d q=>by
 have e:(0:Int)<j:=d;exact mod_int' (Int.ne_of_gt d) (by rw[Int.fmod_eq_emod_of_nonneg i (Int.le_of_lt d)];exact q)
theorem zz7 :OpR X (binaryOp .Pow) (rI zI9 λi j=>.int (i ^ j.toNat)):=opI λ_ _ _ _ _ _ _ d q=>pow_int_small d.1 d.2.1 d.2.2 q
theorem unI {f:Value->Sem Value}{g:Int->Int}
  (rule:∀(i:Int) (t:Tok) (s:Shared) (Q:Value->Shared->Prop) (E:Value->Shared->Prop),Q (.int (g i) s.toks) {s with toks:=s.toks+1}->wpAny (model X.prog X.w) X.A (f (.int i t)) Q E s):
  UnR X f (rU λi=>.int (g i)):=by
 intro pins s σ H x v Q I d h;obtain⟨i,rfl,q⟩:=h;obtain⟨t,rfl⟩:=d;exact rule i t s _ _ ⟨.int (g i),H,I.tok _,⟨_,rfl⟩,q⟩
theorem bZ :UnR X (unaryOp .USub) (rU λi=>.int (-i)):=unI λ_ _ _ _ _ q=>neg_int q
end
def zS8 :V->V->Bool
 |.non,.non=>true|.non,.int _=>true|.int _,.non=>true|.non,.bl _=>true|.bl _,.non=>true|.non,.str _=>true|.str _,.non=>true
 |.int _,.int _=>true|.bl _,.bl _=>true|.str _,.str _=>true|.byt _,.byt _=>true
 |.int _,.str _=>true|.str _,.int _=>true|.bl _,.str _=>true|.str _,.bl _=>true
 |_,_=>false
def rEq :R2:=λx y H Q=>zS8 x y=true/\Q (.bl (decide (x=y))) H
def rNe :R2:=λx y H Q=>zS8 x y=true/\Q (.bl (!decide (x=y))) H
theorem iG {i j:Int}:decide (V.int i=V.int j)=(i == j):=by
 rw[z99];simp
theorem bC {i j:Bool}:decide (V.bl i=V.bl j)=(i == j):=by
 rw[z99];simp
theorem iw {i j:Str}:decide (V.str i=V.str j)=(i == j):=by
 rw[z99];simp
theorem jZ {i j:Array UInt8}:decide (V.byt i=V.byt j)=(i.toList == j.toList):=by
 rw[z99];cases i;cases j;simp
section
variable {X:Cx}{a b c:Expr}{ta tb tc:TE}{pos:Pos}
theorem zC {pins:List (Addr×Obj)}{σ:St}{H:Hp}{s:Shared}{Q:VK}{k d:Bool}(I:Inv X pins σ H s)(q:Q (.bl k) H)(e:k=d):EP X pins σ Q (.bool d) s:=by
 subst e;exact⟨.bl k,H,I,rfl,q⟩
theorem zy4 :OpR X (compareOp .Eq) rEq:=by
 intro pins s σ H x y v u Q I f d h;obtain⟨e,q⟩:=h;cases x with
 |non=>
  cases f;cases y with
  |non=>cases d;exact PySem.EqNone.eq_none_none (zC I q (by simp))
  |bl j=>cases d;exact PySem.EqNone.eq_none_bool (zC I q (by simp))
  |int j=>obtain⟨t',rfl⟩:=d;exact PySem.EqNone.eq_none_int (zC I q (by simp))
  |str j=>obtain⟨t',rfl⟩:=d;exact PySem.EqNone.eq_none_str (zC I q (by simp))
  |_=>exact absurd (show false=true from e) z03
 |bl i=>
  cases f;cases y with
  |non=>cases d;exact PySem.EqNone.eq_bool_none (zC I q (by simp))
  |bl j=>cases d;exact eq_bool (zC I q bC)
  |str j=>obtain⟨t',rfl⟩:=d;exact PySem.EqMixed.eq_bool_str (zC I q (by simp))
  |_=>exact absurd (show false=true from e) z03
 |int i=>
  obtain⟨t,rfl⟩:=f;cases y with
  |non=>cases d;exact PySem.EqNone.eq_int_none (zC I q (by simp))
  |int j=>obtain⟨t',rfl⟩:=d;exact eq_int (zC I q iG)
  |str j=>obtain⟨t',rfl⟩:=d;exact PySem.EqMixed.eq_int_str (zC I q (by simp))
  |_=>exact absurd (show false=true from e) z03
 |str i=>
  obtain⟨t,rfl⟩:=f;cases y with
  |non=>cases d;exact PySem.EqNone.eq_str_none (zC I q (by simp))
  |bl j=>cases d;exact PySem.EqMixed.eq_str_bool (zC I q (by simp))
  |int j=>obtain⟨t',rfl⟩:=d;exact PySem.EqMixed.eq_str_int (zC I q (by simp))
  |str j=>obtain⟨t',rfl⟩:=d;exact eq_str (zC I q iw)
  |_=>exact absurd (show false=true from e) z03
 |byt i=>
  obtain⟨t,rfl⟩:=f;cases y with
  |byt j=>obtain⟨t',rfl⟩:=d;exact PySem.W.eq_bytes (zC I q jZ)
  |_=>exact absurd (show false=true from e) z03
 |_=>cases y<;>exact absurd (show false=true from e) z03
theorem zS6 :OpR X (compareOp .NotEq) rNe:=by
 intro pins s σ H x y v u Q I f d h;obtain⟨e,q⟩:=h;cases x with
 |non=>
  cases f;cases y with
  |non=>cases d;exact PySem.EqNone.ne_none_none (zC I q (by simp))
  |bl j=>cases d;exact PySem.EqNone.ne_none_bool (zC I q (by simp))
  |int j=>obtain⟨t',rfl⟩:=d;exact PySem.EqNone.ne_none_int (zC I q (by simp))
  |str j=>obtain⟨t',rfl⟩:=d;exact PySem.EqNone.ne_none_str (zC I q (by simp))
  |_=>exact absurd (show false=true from e) z03
 |bl i=>
  cases f;cases y with
  |non=>cases d;exact PySem.EqNone.ne_bool_none (zC I q (by simp))
  |bl j=>cases d;exact ne_bool (zC I q (congrArg not bC))
  |str j=>obtain⟨t',rfl⟩:=d;exact PySem.EqMixed.ne_bool_str (zC I q (by simp))
  |_=>exact absurd (show false=true from e) z03
 |int i=>
  obtain⟨t,rfl⟩:=f;cases y with
  |non=>cases d;exact PySem.EqNone.ne_int_none (zC I q (by simp))
  |int j=>obtain⟨t',rfl⟩:=d;exact ne_int (zC I q (congrArg not iG))
  |str j=>obtain⟨t',rfl⟩:=d;exact PySem.EqMixed.ne_int_str (zC I q (by simp))
  |_=>exact absurd (show false=true from e) z03
 |str i=>
  obtain⟨t,rfl⟩:=f;cases y with
  |non=>cases d;exact PySem.EqNone.ne_str_none (zC I q (by simp))
  |bl j=>cases d;exact PySem.EqMixed.ne_str_bool (zC I q (by simp))
  |int j=>obtain⟨t',rfl⟩:=d;exact PySem.EqMixed.ne_str_int (zC I q (by simp))
  |str j=>obtain⟨t',rfl⟩:=d;exact ne_str (zC I q (congrArg not iw))
  |_=>exact absurd (show false=true from e) z03
 |byt i=>
  obtain⟨t,rfl⟩:=f;cases y with
  |byt j=>obtain⟨t',rfl⟩:=d;exact PySem.W.ne_bytes (zC I q (congrArg not jZ))
  |_=>exact absurd (show false=true from e) z03
 |_=>cases y<;>exact absurd (show false=true from e) z03
theorem zw4 :OpR X (compareOp .Lt) (rI0 λi j=>.bl (decide (i<j))):=zr4 λ_ _ _ _ _ _ _ q=>lt_int q
theorem cJ :OpR X (compareOp .LtE) (rI0 λi j=>.bl (decide (i<=j))):=zr4 λ_ _ _ _ _ _ _ q=>le_int q
theorem zu2 :OpR X (compareOp .Gt) (rI0 λi j=>.bl (decide (j<i))):=zr4 λ_ _ _ _ _ _ _ q=>gt_int q
theorem zK8 :OpR X (compareOp .GtE) (rI0 λi j=>.bl (decide (j<=i))):=zr4 λ_ _ _ _ _ _ _ q=>ge_int q
theorem cO :OpR X (compareOp .Is) (λx y H Q=>y=.non/\Q (.bl (decide (x=.non))) H):=by
 intro pins s σ H x y v u Q I d e h;obtain⟨rfl,q⟩:=h;cases e;refine is_none_gen (zC I q ?_);cases x<;>first
  |(cases d;rfl)
  |(obtain⟨t,rfl⟩:=d;rfl)
theorem zp4 :OpR X (compareOp .IsNot) (λx y H Q=>y=.non/\Q (.bl (!decide (x=.non))) H):=by
 intro pins s σ H x y v u Q I d e h;obtain⟨rfl,q⟩:=h;cases e;refine isnot_none_gen (zC I q ?_);cases x<;>first
  |(cases d;rfl)
  |(obtain⟨t,rfl⟩:=d;rfl)
theorem yR (b:Expr){op:CmpOp}(h:op≠.In:=by decide)(d:op≠.NotIn:=by decide):behindInMarks op b=false:=by
 have e1:(op == CmpOp.In)=false:=by cases op<;>first|rfl|exact absurd rfl h
 have e:(op == CmpOp.NotIn)=false:=by cases op<;>first|rfl|exact absurd rfl d
 cases b<;>simp[behindInMarks,e1,e]
theorem pY {op:CmpOp}{r:R2}(d:OpR X (compareOp op) r)(ha:PE X a ta)(hb:PE X b tb)(hm:behindInMarks op b=false):PE X (.Compare a [op] [b] pos) (tOp r ta tb):=by
 intro pins s σ H Q I h;exact wpAny_Compare1 (zC2 ha hb I h λv u s2 x y f g i e q=>d pins s2 σ f x y v u Q g i e q) hm
def zL4 (t:TE):TT:=λσ H Q=>t σ H λx H'=>∃k,x=.bl k/\Q k H'
theorem jx {op:CmpOp}{r:R2}(g:OpR X (compareOp op) r)(ha:PE X a ta)(hb:PE X b tb)(hm:behindInMarks op b=false):PT X (.Compare a [op] [b] pos) (zL4 (tOp r ta tb)):=by
 intro pins s σ H Q I h;refine wpAny_isTrue_Compare1 (thn (ha pins s σ H _ I h) λv s1 ⟨x,H1,i,q,m⟩=>thn (hb pins s1 σ H1 _ i m) λu s2 ⟨y,j,l,d,n⟩=>
  thn (g pins s2 σ j x y v u _ l q d n) λc s3 ⟨z,H3,f,o,k,e,p⟩=>?_) hm
 subst e;cases o;exact z65 ⟨H3,f,p⟩
def zD1 (r e:R2)(ta tb tc:TE):TE:=λσ H Q=>ta σ H λx H1=>tb σ H1 λy f=>r x y f λz H3=>∃k,z=.bl k/\
 (if k=true then tc σ H3 λg d=>e y g d Q else Q (.bl false) H3)
theorem za4 {op f:CmpOp}{r m:R2}(n:OpR X (compareOp op) r)(g:OpR X (compareOp f) m)(ha:PE X a ta)(hb:PE X b tb)(q:PE X c tc)
  (hm:lastMarks [op,f] [b,c]=false:=by with_unfolding_all rfl):PE X (.Compare a [op,f] [b,c] pos) (zD1 r m ta tb tc):=by
 intro pins s σ H Q I h;refine Compare_chain (thn (ha pins s σ H _ I h) λv s1 ⟨x,H1,C,A,F⟩=>chain_link (thn (hb pins s1 σ H1 _ C F) λu s2 ⟨y,D,E,i,G⟩=>
  thn (n pins s2 σ D x y v u _ E A i G) λd s3 ⟨z,H3,l,J,k,e,j⟩=>?_)) hm
 subst e;cases J;refine z65 ?_;cases k with
 |false=>exact ite_ff ⟨.bl false,H3,l,rfl,j⟩
 |true=>exact ite_tt (chain_last (thn (q pins s3 σ H3 _ l j) λw s4 ⟨t,o,B,p,K⟩=>g pins s4 σ o y t u w Q B i p K))
def zB2 (K:PySem.W.Frag)(x:V)(H:Hp)(k:Bool):Prop:=
 match x with
 |.non=>k=false
 |.bl b=>k=b
 |.int i=>k=(i != 0)
 |.str y=>y.length<=sizeLine/\k=((y.length:Int) != 0)
 |.byt y=>y.size<=sizeLine/\k=((y.size:Int) != 0)
 |.ref p=>(∃xs,SqL K H p xs/\k=!xs.isEmpty)\/(∃xs,SqT K H p xs/\k=!xs.isEmpty)\/∃kvs,H p=some (.dK kvs)/\k=!kvs.isEmpty
 |_=>False
theorem jt {d:Type}{kvs:List (d×V)}{vs:List (d×Value)}(r:KV kvs vs):(!vs.isEmpty)=!kvs.isEmpty:=by
 cases r<;>rfl
theorem rL {xs:List V}{its:List Value}(r:Vals xs its):(!its.toArray.isEmpty)=!xs.isEmpty:=by
 cases r<;>simp
theorem uO :(sizeLine:Nat)<2 ^ 63:=by rw[z44];decide
theorem dG :zU8 X (λx H Q=>∃k,zB2 X.K x H k/\Q k H):=by
 intro pins s σ H x v Q I f h;obtain⟨k,e,q⟩:=h;have n:=uO;have j:sizeLine=16777216:=z44;cases x with
 |non=>
  cases f;have d:k=false:=e;subst d;exact truthy_none ⟨H,I,q⟩
 |bl b=>
  cases f;have d:k=b:=e;subst d;exact z65 ⟨H,I,q⟩
 |int i=>
  obtain⟨t,rfl⟩:=f;have d:k=(i != 0):=e;subst d;exact PySem.P.truthy_int ⟨H,I,q⟩
 |str y=>
  obtain⟨t,rfl⟩:=f;obtain⟨hy,d⟩:y.length<=sizeLine/\k=((y.length:Int) != 0):=e;subst d;exact PySem.P.truthy_str (zM9 j hy) ⟨H,I.tok _,q⟩
 |byt y=>
  obtain⟨t,rfl⟩:=f;obtain⟨hy,d⟩:y.size<=sizeLine/\k=((y.size:Int) != 0):=e;subst d;exact PySem.W.truthy_bytes (zM3 j hy) ⟨H,I.tok _,q⟩
 |ref p=>
  cases f;have d:(∃xs,SqL X.K H p xs/\k=!xs.isEmpty)\/(∃xs,SqT X.K H p xs/\k=!xs.isEmpty)\/∃kvs,H p=some (.dK kvs)/\k=!kvs.isEmpty:=e;rcases d with⟨xs,g,d⟩|⟨xs,g,d⟩|⟨kvs,g,d⟩
  ·subst d;obtain⟨its,r,pl,hz⟩:=I.list g;have hlen:=r.length;exact wpAny_truthy_list pl.isList (by simp only[zZ5];exact cc j hlen hz) ⟨H,I.tok _,by rw[rL r];exact q⟩
  ·subst d;obtain⟨its,r,pl,hz⟩:=I.tuple g;have hlen:=r.length;exact truthy_tuple pl (by simp only[zZ5];exact cc j hlen hz) ⟨H,I.tok _,by rw[rL r];exact q⟩
  ·subst d;obtain⟨hz,l,vs,r,m⟩:kvs.length<=sizeLine/\(p == sysModules)=false/\∃vs,KV kvs vs/\s.heap.DictOf (zJ X.prog X.w) p vs:=I.hok p _ g;have hlen:kvs.length=vs.length:=Paired.length r;exact wpAny_truthy_dict l m (cc j hlen hz) ⟨H,I.tok _,by rw[jt r];exact q⟩
 |_=>exact(show False from e).elim
theorem aH (ha:PE X a ta)(he:∀whole,isTrue a X.env whole=(do let v <-whole;standAt a.pos;holding [v] (truthy v))):
  PT X a (λσ H Q=>ta σ H λx H'=>∃k,zB2 X.K x H' k/\Q k H'):=by
 intro pins s σ H Q I h;exact isTrue_plain (thn (ha pins s σ H _ I h) λv s1 d=>by obtain⟨x,H1,e,g,f⟩:=d;exact dG pins s1 σ H1 x v Q e g f) (he _)
theorem vals1 {x:V}{us:List Value}(r:Vals [x] us):∃u,us=[u]/\RelV x u:=by
 cases r with
 |cons e d=>cases d;exact⟨_,rfl,e⟩
theorem vals2 {x y:V}{us:List Value}(r:Vals [x,y] us):∃u d,us=[u,d]/\RelV x u/\RelV y d:=by
 cases r with
 |cons h e=>
  cases e with
  |cons f g=>cases g;exact⟨_,_,rfl,h,f⟩
theorem eN (e:X.calm=true):xi X (.builtin "max") (λxs H Q=>∃i j,xs=[.int i,.int j]/\Q (.int (if j > i then j else i)) H):=by
 intro pins s σ H xs us Q I r h;obtain⟨i,j,rfl,q⟩:=h;obtain⟨u,f,rfl,⟨t,rfl⟩,⟨t',rfl⟩⟩:=vals2 r;refine max_two_ints (I.ok.hd e) λh' tk k=>⟨_,H,I.kept k,?_,q⟩;by_cases d:j > i
 ·rw[if_pos d,if_pos d];exact⟨_,rfl⟩
 ·rw[if_neg d,if_neg d];exact⟨_,rfl⟩
theorem iY (e:X.calm=true):xi X (.builtin "min") (λxs H Q=>∃i j,xs=[.int i,.int j]/\Q (.int (if j<i then j else i)) H):=by
 intro pins s σ H xs us Q I r h;obtain⟨i,j,rfl,q⟩:=h;obtain⟨u,f,rfl,⟨t,rfl⟩,⟨t',rfl⟩⟩:=vals2 r;refine min_two_ints (I.ok.hd e) λh' tk k=>⟨_,H,I.kept k,?_,q⟩;by_cases d:j<i
 ·rw[if_pos d,if_pos d];exact⟨_,rfl⟩
 ·rw[if_neg d,if_neg d];exact⟨_,rfl⟩
end
structure kX (h:Heap)(x dx C:Addr)(mA:Str->Option Value):Prop where
 obj:h.get? x=some (PySem.W.instObj C dx)
 ns:h.Ns1 dx mA
 ne:dx≠x
theorem hV {h:Heap}{dx:Addr}{mA:Str->Option Value}(n:h.Ns1 dx mA):∃od,h.get? dx=some od/\∀name,PySem.W.lookIn name od=some (mA name):=by
 obtain⟨o,c,g,d,hd,hk,_,hm⟩:=n;refine⟨o,d,λname=>?_⟩;have e:=hm name;unfold nsFind findBy at e;rw[<-Array.find?_toList]at e;unfold PySem.W.lookIn;rw[hd];dsimp only;split
 ·rename_i y q;rw[q]at e;exact congrArg some e
 ·rename_i q;rw[q]at e;have a:c.toList.any (·.refKey)=false:=by
   rw[yf4];intro y hy;obtain⟨z,t,b⟩:=hk y (Array.mem_toList_iff.mp hy);simp[DictEntry.refKey,b]
  have f:¬c.toList.any (·.refKey)=true:=by rw[a];exact z03
  rw[if_neg f];exact congrArg some e
theorem kX.look {h:Heap}{x dx C:Addr}{mA:Str->Option Value}(I:kX h x dx C mA):∃od,PySem.W.InstAt h x (PySem.W.instObj C dx) C (some od)/\∀name,PySem.W.lookIn name od=some (mA name):=
 let⟨od,ho,hl⟩:=hV I.ns
 ⟨od,⟨I.obj,rfl,rfl,ho⟩,hl⟩
section
variable {prog:Program}{w:World}{A:Around}{E:Value->Shared->Prop}{s:Shared}{K:PySem.W.Frag}{x dx C f:Addr}{mA:Str->Option Value}{name:Str}{v:Value}
theorem get_map {expr:Bool}{Q:Value->Shared->Prop}(X:K.In s.heap)(I:kX s.heap x dx C mA)(hg:PySem.W.plainGet K C name=true)(c:PySem.W.hasDictIn K C=true)
  (ha:PySem.W.findIn K (.ref C) name=some none) (d:mA name=some v) (a:PySem.W.handedIn v=true) (h:Q v {s with toks:=s.toks+1}):
  wpAny (model prog w) A (getAttr (.ref x) name expr) Q E s:=by
 obtain⟨od,J,b⟩:=I.look;exact PySem.W.get_value X J (yh9 hg).1 (PySem.W.findObj_own c ha rfl (by rw[b,d])) a h
theorem dY {pl:Sem Bool}{Q:Value×List Value->Shared->Prop}(X:K.In s.heap)(I:kX s.heap x dx C mA)(hg:PySem.W.plainGet K C name=true)
  (hf:PySem.W.findIn K (.ref C) name=some (some (.ref f))) (c:PySem.W.isFn K (.ref f)=true) (b:mA name=none) (h:Q (.ref f,[.ref x]) s):
  wpAny (model prog w) A (getMethod (.ref x) name pl) Q E s:=by
 obtain⟨od,J,a⟩:=I.look;exact PySem.W.method_fn X J (yh9 hg).1 (yh9 hg).2 hf (yc1.mp c) (by show(PySem.W.lookIn name od).map (·.isSome)=some false;rw[a,b];rfl) h
theorem zp3 {ns:List Str}{Q:Unit->Shared->Prop}(X:K.In s.heap)(I:kX s.heap x dx C mA)
  (p:PySem.W.findIn K (.ref C) "__setattr__"=some (some (.builtin "object.__setattr__"))) (m:PySem.W.plainOver K C=true) (t:PySem.W.takerIn K C name=some none) (n:PySem.W.hasDictIn K C=true)
  (hw:PySem.Within mA ns) (hsz:ns.length<=sizeLine)
  (h:∀h',kX h' x dx C (λy=>if y=name then some v else mA y)->Heap.SameBut dx s.heap h'->Q () {s with heap:=h',toks:=s.toks+2}):
  wpAny (model prog w) A (setAttr (.ref x) name v) Q E s:=by
 obtain⟨od,J,u⟩:=I.look;refine PySem.W.set_plain X J p (PySem.W.osa_open (s:={s with toks:=s.toks+1}) (r:=none) X J m t λb=>?_);obtain⟨cd,q,e⟩:=PySem.W.any_some n;have o:s.heap.get? x=some ⟨.ref C,some dx,.plain,#[]⟩:=I.obj;refine zX6 (zY4 (zX6 (zX6 (wpAny_loadPart o (zX6 (PySem.W.Looks.here (s:={s with toks:=s.toks+1}) (PySem.W.looks_clsIn X q) ?_))))));rw[e];refine zY4 (a:=some dx) (zX6 (zY4 (zX6 ?_)));refine wpAny_nsSet1 (s:={s with toks:=s.toks+1}) I.ns λh' c d=>?_;obtain⟨z,l,k,g,j,i⟩:=c.count (PySem.Within.cons name v hw);refine zX6 (wpAny_lookBehind g (by rw[j];exact pastItsLine_dict (zY8 i (by rw[z00];exact Nat.add_le_add hsz (zY3 _)))) ?_);exact zY4 (h _ ⟨(d.2 _ (z23 I.ne)).trans I.obj,c,I.ne⟩ d)
theorem za5 {R:Result->Shared->Prop}{vs:List Value}{kw:List (Str×Value)}(X:K.In s.heap)(hm:PySem.W.makesIn K C=true)
  (hi:PySem.W.findIn K (.ref C) "__init__"=some (some (.ref f))) (hf:PySem.W.typeIn K (.ref f)=some (.type "function"))
  (h:codeAny (model prog w) (A.under (.builtin "type.__call__" ⟨.ref C::vs,kw⟩)) (.call (.ref f) ⟨.ref (s.heap.objs.size+1)::vs,kw⟩) (PySem.W.InitBack (s.heap.objs.size+1) R)
   {s with heap:=(s.heap.push PySem.W.emptyDict).push (PySem.W.instObj C s.heap.objs.size)}):
  codeAny (model prog w) A (.call (.ref C) ⟨vs,kw⟩) R s:=by
 obtain⟨a,g,d,t,os⟩:=s;exact PySem.W.make_core (PySem.W.makes_of X hm) (PySem.W.looks_findIn X hi) (λself=>PySem.W.bind_fn X self hf) (.inl rfl) h
end
def xR (f:Str)(v:V):List (Str×V)->List (Str×V)
 |[]=>[(f,v)]
 |(g,x)::r=>if g=f then(g,v)::r else(g,x)::xR f v r
theorem tw (f g:Str)(v:V):∀fs:List (Str×V),(xR f v fs).lookup g=if g=f then some v else fs.lookup g
 |[]=>by
  show List.lookup g [(f,v)]=_;by_cases h:g=f
  ·have hb:(g == f)=true:=yc1.mpr h;simp only[List.lookup,hb,if_pos h]
  ·have hb:(g == f)=false:=z79.mpr h;simp only[List.lookup,hb,if_neg h]
 |(k,x)::r=>by
  have a:=tw f g v r;rw[show xR f v ((k,x)::r)=(if k=f then(k,v)::r else(k,x)::xR f v r)from rfl];by_cases hk:k=f
  ·rw[if_pos hk];by_cases h:g=k
   ·have hb:(g == k)=true:=yc1.mpr h;simp only[List.lookup,hb,if_pos (h.trans hk)]
   ·have hb:(g == k)=false:=z79.mpr h;simp only[List.lookup,hb,if_neg (λe:g=f=>h (e.trans hk.symm))]
  ·rw[if_neg hk];by_cases h:g=k
   ·have hb:(g == k)=true:=yc1.mpr h;simp only[List.lookup,hb,if_neg (λe:g=f=>hk (h.symm.trans e))]
   ·have hb:(g == k)=false:=z79.mpr h;simp only[List.lookup,hb];exact a
theorem uL (f:Str)(v:V):∀fs:List (Str×V),f∈(xR f v fs).map (·.1)/\∀g,g∈fs.map (·.1)->g∈(xR f v fs).map (·.1)
 |[]=>⟨by simp[xR],λg h=>by simp at h⟩
 |(k,x)::r=>by
  obtain⟨i1,i2⟩:=uL f v r;rw[show xR f v ((k,x)::r)=(if k=f then(k,v)::r else(k,x)::xR f v r)from rfl];by_cases hk:k=f
  ·rw[if_pos hk];subst hk;exact⟨by simp,λg h=>by simpa using h⟩
  ·rw[if_neg hk];refine⟨?_,λg h=>?_⟩
   ·rw[z02];exact zY5 _ i1
   ·rw[z02]at h ⊢;rcases zY2.mp h with e|e
    ·exact zY2.mpr (.inl e)
    ·exact zY5 _ (i2 g e)
theorem tD (f:Str)(v:V):∀fs:List (Str×V),(xR f v fs).length<=fs.length+1
 |[]=>by simp[xR]
 |(k,x)::r=>by
  have a:=tD f v r;rw[show xR f v ((k,x)::r)=(if k=f then(k,v)::r else(k,x)::xR f v r)from rfl];by_cases hk:k=f
  ·rw[if_pos hk,z00,z00];exact zZ4 _ _
  ·rw[if_neg hk,z00,z00];exact Nat.add_le_add a (zY3 _)
theorem vK.some_of {v:V}{o:Option Value}(r:vK (some v) o):∃u,o=some u/\RelV v u:=by
 cases o with
 |none=>exact(show False from r).elim
 |some u=>exact⟨u,rfl,r⟩
theorem vK.none_of {o:Option Value}(r:vK none o):o=none:=by
 cases o with
 |none=>rfl
 |some u=>exact(show False from r).elim
theorem gZ {v:V}{u:Value}(r:RelV v u):PySem.W.handedIn u=true:=by
 cases v with
 |non=>cases(show u=Value.none from r);rfl
 |bl b=>cases(show u=Value.bool b from r);rfl
 |int i=>obtain⟨t,e⟩:=(show ∃t,u=Value.int i t from r);cases e;rfl
 |str x=>obtain⟨t,e⟩:=(show ∃t,u=Value.str x t from r);cases e;rfl
 |byt b=>obtain⟨t,e⟩:=(show ∃t,u=Value.bytes b t from r);cases e;rfl
 |flt b=>obtain⟨t,e⟩:=(show ∃t,u=Value.float b t from r);cases e;rfl
 |ref a=>cases(show u=Value.ref a from r);rfl
 |ty n=>cases(show u=Value.type n from r);rfl
section
variable {P:Program}{w:World}{H H':Hp}{h h':Heap}{a C dx:Addr}{fs fs':List (Str×V)}
theorem tU (hok:HOk P w H h)(e:H a=some (.ins C dx fs)):∃mA,kX h a dx C mA/\(∀f,vK (fs.lookup f) (mA f))/\PySem.Within mA (fs.map (·.1))/\fs.length<=1000/\H dx=some (.own a):=by
 obtain⟨d,z,ne,ob,mA,n,r,q⟩:=(show zD P w H h a (.ins C dx fs)from hok a _ e);exact⟨mA,⟨ob,n,ne⟩,r,q,z,d⟩
end
structure Cls (K:PySem.W.Frag)(C:Addr):Prop where
 pg:PySem.W.plainGet K C Str.empty=true
 hd:PySem.W.hasDictIn K C=true
 po:PySem.W.plainOver K C=true
 sa:PySem.W.findIn K (.ref C) "__setattr__"=some (some (.builtin "object.__setattr__"))
theorem Cls.get {K:PySem.W.Frag}{C:Addr}(c:Cls K C)(f:Str):PySem.W.plainGet K C f=true:=c.pg
def yu (K:PySem.W.Frag)(C:Addr)(f:Str):Prop:=PySem.W.findIn K (.ref C) f=some none
theorem yu.taker {K:PySem.W.Frag}{C:Addr}{f:Str}(n:yu K C f):PySem.W.takerIn K C f=some none:=by
 unfold PySem.W.takerIn;rw[show PySem.W.findIn K (.ref C) f=some none from n];rfl
structure Meth (K:PySem.W.Frag)(C:Addr)(m:Str)(f:Addr):Prop where
 at_:PySem.W.findIn K (.ref C) m=some (some (.ref f))
 fn:PySem.W.isFn K (.ref f)=true
 kp:PySem.W.keepIn K (.ref f)=true
section
variable {X:Cx}{pins:List (Addr×Obj)}{σ:St}{H:Hp}{s:Shared}{a C dx:Addr}{fs:List (Str×V)}{f:Str}{v:V}{A:Around}{E:Value->Shared->Prop}
theorem kP {b:Bool}{Q:Value->Shared->Prop}(I:Inv X pins σ H s)(e:H a=some (.ins C dx fs))(c:Cls X.K C)(n:yu X.K C f)(l:fs.lookup f=some v)
  (h:∀u s',Inv X pins σ H s'->RelV v u->Q u s'):wpAny (model X.prog X.w) A (getAttr (.ref a) f b) Q E s:=by
 obtain⟨mA,O,r,_,_,_⟩:=tU I.hok e;obtain⟨u,g,d⟩:=vK.some_of (v:=v) (o:=mA f) (by rw[<-l];exact r f);exact get_map I.kIn O (c.get f) c.hd n g (gZ d) (h u _ (I.tok _) d)
theorem vT {m:Str}{g:Addr}{pl:Sem Bool}{Q:Value×List Value->Shared->Prop}(I:Inv X pins σ H s)(e:H a=some (.ins C dx fs))(c:Cls X.K C)(k:Meth X.K C m g)(l:fs.lookup m=none)
  (h:Q (.ref g,[.ref a]) s):wpAny (model X.prog X.w) A (getMethod (.ref a) m pl) Q E s:=by
 obtain⟨mA,O,r,_,_,_⟩:=tU I.hok e;have hn:mA m=none:=vK.none_of (by rw[<-l];exact r m);exact dY I.kIn O (c.get m) k.at_ k.fn hn h
theorem jo {y:V}{u:Value}{Q:Unit->Shared->Prop}(I:Inv X pins σ H s)(e:H a=some (.ins C dx fs))(c:Cls X.K C)(n:yu X.K C f)(m:fs.length<1000)(k:RelV y u)
  (h:∀s',Inv X pins σ (upd H a (.ins C dx (xR f y fs))) s'->Q () s'):wpAny (model X.prog X.w) A (setAttr (.ref a) f u) Q E s:=by
 obtain⟨mA,O,r,i,_,j⟩:=tU I.hok e;have hz:(fs.map (·.1)).length<=sizeLine:=by rw[zX8,z44];lia
 refine zp3 I.kIn O c.sa c.po n.taker c.hd i hz λh' d l=>h _ ?_;have hd:∃o,h'.get? dx=some o:=let⟨o,_,_,e',_⟩:=d.ns;⟨o,e'⟩;refine I.write (x:=a) (e:=dx) (by rw[e];exact True.intro) (.inr j) (λb q hb z=>(l.2 b hb).trans z) hd ?_;refine⟨by rw[zc O.ne];exact j,?_,O.ne,d.obj,_,d.ns,λg=>?_,λg hg=>?_⟩
 ·have:=tD f y fs;exact zY8 this m
 ·show vK ((xR f y fs).lookup g) (if g=f then some u else mA g);rw[tw];by_cases q:g=f
  ·rw[if_pos q,if_pos q];exact k
  ·rw[if_neg q,if_neg q];exact r g
 ·by_cases q:g=f
  ·rw[q];exact(uL f y fs).1
  ·refine(uL f y fs).2 g (i g λz=>hg ?_);show(if g=f then some u else mA g)=none;rw[if_neg q];exact z
theorem Inv.made (I:Inv X pins σ H s):Inv X pins σ (upd (upd H s.heap.objs.size (.own (s.heap.objs.size+1))) (s.heap.objs.size+1) (.ins C s.heap.objs.size []))
  {s with heap:=(s.heap.push PySem.W.emptyDict).push (PySem.W.instObj C s.heap.objs.size)}:=by
 have e1:(s.heap.push PySem.W.emptyDict).get? s.heap.objs.size=some PySem.W.emptyDict:=zZ0 s.heap rfl;have d:((s.heap.push PySem.W.emptyDict).push (PySem.W.instObj C s.heap.objs.size)).get? (s.heap.objs.size+1)=some (PySem.W.instObj C s.heap.objs.size):=by
  have:=zZ0 (s.heap.push PySem.W.emptyDict) (o:=PySem.W.instObj C s.heap.objs.size) rfl
  rwa [z57]at this
 have g:(s.heap.push PySem.W.emptyDict).Ns s.heap.objs.size (λ_=>none):=⟨PySem.W.emptyDict,#[],_,e1,rfl,(λe he=>absurd he (by simp)),λ_=>rfl⟩;have c:=I.laid (a:=s.heap.objs.size) (o:=.own (s.heap.objs.size+1)) (h':=s.heap.push PySem.W.emptyDict) (t':=s.toks) (λb u q=>zX7 _ q) (zY3 _) ⟨_,e1⟩;refine c.laid (a:=s.heap.objs.size+1) (o:=.ins C s.heap.objs.size []) (t':=s.toks) (λb u q=>zX7 _ q) (zZ7 (z57 _ _)) ?_;have ne:s.heap.objs.size≠s.heap.objs.size+1:=z01 (z56 _);refine⟨by rw[zc ne,zh],zZ6 _,ne,d,λ_=>none,(Heap.Ns1.of_empty g).at λo q=>zX7 _ q,λ_=>True.intro,λy hy=>absurd rfl hy⟩
theorem zf2 {prog:Program}{w:World}{env:Env}{e:Expr}{f:Str}{pos:Pos}{s:Shared}{Q:Value->Shared->Prop}(hb:attributeBase e f env (eval e env)=eval e env)
  (h:wpAny (model prog w) A (eval e env) (λo b=>wpAny (model prog w) A (getAttr o f true) Q E b) E s):wpAny (model prog w) A (eval (.Attribute e f pos) env) Q E s:=
 Attribute_any_ h (by rw[arm_eval_Attribute,hb])
end
def zU1 (K:PySem.W.Frag)(b:TE)(f:Str):TE:=λσ H Q=>b σ H λx H1=>∃a C dx fs v,x=.ref a/\H1 a=some (.ins C dx fs)/\Cls K C/\yu K C f/\fs.lookup f=some v/\Q v H1
def zV8 (K:PySem.W.Frag)(d c:TE)(f:Str):TS:=λD σ H=>c σ H λy H1=>d σ H1 λx b=>∃a C dx fs,x=.ref a/\b a=some (.ins C dx fs)/\Cls K C/\yu K C f/\fs.length<1000/\
 D.nx σ (upd b a (.ins C dx (xR f y fs)))
section
variable {X:Cx}{o e value:Expr}{f:Str}{pos pos' tpos:Pos}{ta tv:TE}
theorem zG4 (he:PE X e ta)(hb:attributeBase e f X.env (eval e X.env)=eval e X.env):PE X (.Attribute e f pos) (zU1 X.K ta f):=by
 intro pins s σ H Q I h;refine zf2 hb (thn (he pins s σ H _ I h) λu s1 b=>?_);obtain⟨x,H1,d,k,a,C,dx,fs,v,ex,i,c,n,l,q⟩:=b;subst ex;obtain rfl:u=Value.ref a:=k;exact kP d i c n l λm s2 j g=>⟨v,H1,j,g,q⟩
theorem pD (ha:PE X o ta)(r:PE X value tv)(m:swapsWith value (some (.Attribute o f pos')) pos.line X.env=pure false):PS X (.Assign [.Attribute o f pos'] value pos) (zV8 X.K ta tv f):=by
 intro pins s σ H D I h;refine plainObj_wpAny_Assign_Attribute (thn (r pins s σ H _ I h) λu s1 ⟨y,H1,g,d,q⟩=>thn (ha pins s1 σ H1 _ g q) λt s2 ⟨x,v,j,p,a,C,dx,fs,ex,i,c,n,l,k⟩=>?_) m;subst ex;obtain rfl:t=Value.ref a:=p;exact jo j i c n l d λs3 b=>⟨σ,_,b,k⟩
theorem zu4 {pl:Sem Bool}{m:Str}{apos:Pos}{args:List Expr}{pins:List (Addr×Obj)}{s:Shared}{σ:St}{H:Hp}{Q:Value->Shared->Prop}{i:TE}(he:PE X e i)(I:Inv X pins σ H s)
  (h:i σ H λx H1=>∃a C dx fs g,x=.ref a/\H1 a=some (.ins C dx fs)/\Cls X.K C/\Meth X.K C m g/\fs.lookup m=none/\
   ∀s1,Inv X pins σ H1 s1->wpAny (model X.prog X.w) X.A (callWith pos (.ref g) [.ref a] (backTo pos (starEach args X.env)) (backToKw pos (keywordEach [] X.env))) Q X.xe s1)
  (p:eval (.Call (.Attribute e m apos) args [] pos) X.env=(do
   let ov <-eval e X.env
   standAt apos.atName
   let(f,first) <-holding [ov] (getMethod ov m pl)
   callWith pos f first (backTo pos (starEach args X.env)) (backToKw pos (keywordEach [] X.env)))):
  wpAny (model X.prog X.w) X.A (eval (.Call (.Attribute e m apos) args [] pos) X.env) Q X.xe s:=by
 refine yg4 (pl:=pl) (thn (he pins s σ H _ I h) λu s1 b=>?_) p;obtain⟨x,H1,d,n,a,C,dx,fs,g,ex,j,c,k,l,q⟩:=b;subst ex;obtain rfl:u=Value.ref a:=n;exact vT d j c k l (q s1 d)
end
section
variable {X:Cx}{pins:List (Addr×Obj)}{σ:St}{H:Hp}{s:Shared}{A:Around}{E:Value->Shared->Prop}{Q:Value->Shared->Prop}{c:Value}{b:Bool}
inductive uG (K:PySem.W.Frag)(H:Hp):V->Value->Prop where
 |non:uG K H .non (.type "NoneType")
 |bl (x:Bool):uG K H (.bl x) (.type "bool")
 |int (i:Int):uG K H (.int i) (.type "int")
 |str (x:Str):uG K H (.str x) (.type "str")
 |flt (x:UInt64):uG K H (.flt x) (.type "float")
 |lst {a:Addr}{xs:List V} (e:H a=some (.lst xs)):uG K H (.ref a) (.type "list")
 |frz {a:Addr}{o:Obj}{xs:List V} (e:H a=some (.frz o (.lst xs))):uG K H (.ref a) (.type "list")
 |tup {a:Addr}{xs:List V} (e:H a=some (.tup xs)):uG K H (.ref a) (.type "tuple")
 |dK {a:Addr}{kvs:List (Key×V)} (e:H a=some (.dK kvs)):uG K H (.ref a) (.type "dict")
 |dT {a:Addr}{kvs:List (List Key×V)} (e:H a=some (.dT kvs)):uG K H (.ref a) (.type "dict")
 |ins {a C dx:Addr}{fs:List (Str×V)} (e:H a=some (.ins C dx fs)) (cl:Cls K C) (ha:PySem.W.findIn K (.ref C) "__class__"=some (some (.builtin "object.__class__")))
   (hn:PySem.W.specialIn K (.builtin "object.__class__") "__get__"=some (some (.builtin "getset_descriptor.__get__"))) (htk:PySem.W.takesIn K (.builtin "object.__class__")=some true)
   (hm:PySem.W.mroIn K C (.type "object")=some true):uG K H (.ref a) (.ref C)
theorem eQ {x:V}{u t:Value}(I:Inv X pins σ H s)(d:RelV x u)(ty:uG X.K H x t)(e:PySem.W.kitOne X.K t c=some b)(h:∀tk,Q (.bool b) {s with toks:=tk}):
  wpAny (model X.prog X.w) A (call (.builtin "isinstance") [u,c]) Q E s:=by
 cases ty with
 |non=>cases(show u=Value.none from d);exact z58 PySem.W.kitx_none I.kIn True.intro e (λz=>nomatch z) h
 |bl y=>cases(show u=Value.bool y from d);exact z58 PySem.W.kitx_bool I.kIn True.intro e (λz=>nomatch z) h
 |int i=>obtain⟨t,q⟩:=(show ∃t,u=Value.int i t from d);cases q;exact z58 PySem.W.kitx_int I.kIn True.intro e (λz=>nomatch z) h
 |str y=>obtain⟨t,q⟩:=(show ∃t,u=Value.str y t from d);cases q;exact z58 PySem.W.kitx_str I.kIn True.intro e (λz=>nomatch z) h
 |flt y=>obtain⟨t,q⟩:=(show ∃t,u=Value.float y t from d);cases q;exact z58 PySem.W.kitx_float I.kIn True.intro e (λz=>nomatch z) h
 |@lst a xs ea=>
  cases(show u=Value.ref a from d);obtain⟨_,_,n,_,f⟩:=(show zD X.prog X.w H s.heap a (.lst xs)from I.hok a _ ea);exact z58 PySem.W.kitx_list I.kIn ⟨_,f,rfl⟩ e (λz=>nomatch z) h
 |@frz a ob xs ea=>
  cases(show u=Value.ref a from d);obtain⟨_,_,_,n,_,f⟩:=(show zD X.prog X.w H s.heap a (.frz ob (.lst xs))from I.hok a _ ea);exact z58 PySem.W.kitx_list I.kIn ⟨_,f,rfl⟩ e (λz=>nomatch z) h
 |@tup a xs ea=>
  cases(show u=Value.ref a from d);obtain⟨_,_,_,p⟩:=(show zD X.prog X.w H s.heap a (.tup xs)from I.hok a _ ea);obtain⟨o,f,g,_⟩:=p;exact z58 PySem.W.kitx_tuple I.kIn ⟨o,f,g⟩ e (λz=>nomatch z) h
 |@dK a kvs ea=>
  cases(show u=Value.ref a from d);obtain⟨_,_,vs,_,p⟩:=(show zD X.prog X.w H s.heap a (.dK kvs)from I.hok a _ ea);obtain⟨o,j,k,f,g,_⟩:=p;exact z58 PySem.W.kitx_dict I.kIn ⟨o,f,g.1⟩ e (λz=>nomatch z) h
 |@dT a kvs ea=>
  cases(show u=Value.ref a from d);obtain⟨_,_,xs,_,o,j,k,f,g,_⟩:=(show zD X.prog X.w H s.heap a (.dT kvs)from I.hok a _ ea);exact z58 PySem.W.kitx_dict I.kIn ⟨o,f,g.1⟩ e (λz=>nomatch z) h
 |@ins a C dx fs ea cl ha hn htk hm=>
  cases(show u=Value.ref a from d);obtain⟨mA,O,_⟩:=tU I.hok ea;obtain⟨od,J,_⟩:=O.look;exact z58 (PySem.W.kitx_own (cl.get _) cl.hd ha hn htk hm) I.kIn J e (λz=>nomatch z) h
end
structure zG (k:Nat)(A:Around):Prop where
 hd:A.handled=none
 dp:A.depth+3*k+5<recursionLimit
 un:A.units+16*k+200<cLine
 gd:A.guards=some []
theorem zG.mono {j k:Nat}{A:Around}(r:zG k A)(h:j<=k):zG j A:=⟨r.hd,by have:=r.dp;lia,by have:=r.un;lia,r.gd⟩
theorem zG.deeper {k:Nat}{A:Around}(r:zG (k+1) A)(env:Env):zG k (A.deeper env):=
 ⟨r.hd,by have:=r.dp;show A.depth+1+3*k+5<_;exact zy8 this,by have:=r.un;show A.units+3+16*k+200<_;lia,r.gd⟩
theorem zG.in1 {k:Nat}{A:Around}(r:zG (k+1) A):zG k A.in1:=
 ⟨r.hd,by have:=r.dp;show A.depth+3*k+5<_;lia,by have:=r.un;show A.units+1+16*k+200<_;exact zr8 this,r.gd⟩
theorem kd {A:Around}{C:Addr}{us:List Value}{kw:List (Str×Value)}:(A.under (.builtin "type.__call__" ⟨.ref C::us,kw⟩)).depth=A.depth+1:=by
 first|rfl|simp[Around.under,Code.weight,Code.isCreation,Code.isGuard,Code.isCaller,Code.frames,Code.isFrame,guardIds]
theorem kZ {A:Around}{C:Addr}{us:List Value}{kw:List (Str×Value)}:(A.under (.builtin "type.__call__" ⟨.ref C::us,kw⟩)).units=A.units+1:=by
 first|rfl|simp[Around.under,Code.cUnits,Code.frames,Code.isFrame]
theorem nE {A:Around}{C:Addr}{us:List Value}{kw:List (Str×Value)}:(A.under (.builtin "type.__call__" ⟨.ref C::us,kw⟩)).guards=A.guards:=by
 first|rfl|simp[Around.under,Code.guards,Code.isGuard,guardIds,pushGuards]
theorem zG.make {k:Nat}{A:Around}(r:zG (k+1) A)(C:Addr)(us:List Value)(kw:List (Str×Value)):zG k (A.under (.builtin "type.__call__" ⟨.ref C::us,kw⟩)):=
 ⟨r.hd,by have:=r.dp;rw[kd];exact zy8 this,by have:=r.un;rw[kZ];exact zr8 this,(nE (A:=A)).trans r.gd⟩
theorem zG.depth {k:Nat}{A:Around}(r:zG k A):A.depth<recursionLimit:=by have:=r.dp;exact zZ9 (zZ4 _ _) (zZ9 (zZ4 _ _) this)
theorem zG.units {k:Nat}{A:Around}(r:zG k A):A.units+64<cLine:=by have:=r.un;lia
def zN8 :TA:=λ_ H Q=>Q [] H
def zM5 (a:TE)(tr:TA):TA:=λσ H Q=>a σ H λx H1=>tr σ H1 λxs b=>Q (x::xs) b
section
variable {X:Cx}{e:Expr}{es:List Expr}{te:TE}{t:TA}{pos:Pos}
theorem zW :PA X [] zN8:=λ_ _ _ _ H Q I h=>Calls.spliced_nil ⟨[],H,I,.nil,h⟩
theorem zy (ha:PE X e te)(hr:PA X es t)(k:starEach (e::es) X.env=(false,eval e X.env)::starEach es X.env:=by rfl):PA X (e::es) (zM5 te t):=by
 intro pos pins s σ H Q I h;rw[k];show wpAny _ _ (spliced ((false,eval e X.env)::backTo pos (starEach es X.env))) _ _ s;refine Calls.spliced_cons (thn (ha pins s σ H _ I h) λu s1 a=>?_);obtain⟨x,H1,d,l,i⟩:=a;exact thn (hr pos pins s1 σ H1 _ d i) λus s2 b=>by obtain⟨xs,f,g,c,j⟩:=b;exact⟨x::xs,f,g,.cons l c,j⟩
def zW8 (t:TA):TE:=λσ H Q=>t σ H λxs H1=>xs.length<=sizeLine/\∀p,H1 p=none->Q (.ref p) (upd H1 p (.tup xs))
def zW3 (t:TA):TE:=λσ H Q=>t σ H λxs H1=>xs.length<=sizeLine/\∀p,H1 p=none->Q (.ref p) (upd H1 p (.lst xs))
theorem lZ {x1}(h:PA X es t):PE X (.Tuple es x1 pos) (zW8 t):=by
 intro pins s σ H Q I hq;refine wpAny_Tuple_spliced (thn (h pos pins s σ H _ I hq) λus s1 ⟨xs,H1,a,r,z,q⟩=>⟨by rw[<-r.length];exact z,?_⟩);have hf:H1 s1.heap.objs.size=none:=a.hok.fresh (zY3 _);refine⟨.ref s1.heap.objs.size,upd H1 s1.heap.objs.size (.tup xs),a.laid (t':=s1.toks) (λb u e=>zX7 _ e) (zY3 _) ?_,rfl,q _ hf⟩;exact⟨z,us,r,⟨_,zZ0 _ rfl,rfl,_,rfl⟩⟩
theorem bW (h:PA X es t):PE X (.List es pos) (zW3 t):=by
 intro pins s σ H Q I hq;refine wpAny_List_spliced (thn (h pos pins s σ H _ I hq) λus s1 ⟨xs,H1,a,r,z,q⟩=>⟨by rw[<-r.length];exact z,?_⟩);have hf:H1 s1.heap.objs.size=none:=a.hok.fresh (zY3 _);refine⟨.ref s1.heap.objs.size,upd H1 s1.heap.objs.size (.lst xs),a.laid (t':=s1.toks) (λb u e=>zX7 _ e) (zY3 _) ?_,rfl,q _ hf⟩;exact⟨z,us,0,r,zZ0 _ rfl⟩
end
abbrev Sp :=List V->Hp->VK->XK->Prop
abbrev CXT :=List Env->Hp->Shared->XK->Value->Shared->Prop
structure uS (P:Program)(w:World)(K:PySem.W.Frag)(mg:Str->Option Value)(base:Heap)(A:Around)(outer:List Env)(s:Shared)(H:Hp):Prop where
 frames:A.frames=some outer
 mod:Mod K mg base
 bs:∀b o,base.get? b=some o->s.heap.get? b=some o/\H b=none
 bsz:base.objs.size<=s.heap.objs.size
 funs:s.heap.FunFrames base outer
 frf:∀b∈frs outer,H b=none
 hok:HOk P w H s.heap
 bare:AllBare s.gens
def CE (outer:List Env)(P:Program)(w:World)(H:Hp)(s:Shared)(Q:VK)(u:Value)(s':Shared):Prop:=
 ∃v H',s'.os=s.os/\AllBare s'.gens/\Un (frs outer) [] H H' s.heap s'.heap/\HOk P w H' s'.heap/\RelV v u/\Q v H'
def CR (CX:CXT)(outer:List Env)(P:Program)(w:World)(H:Hp)(s:Shared)(Q:VK)(E:XK)(r:Result)(s':Shared):Prop:=
 match r with
 |.ok (.ret u)=>CE outer P w H s Q u s'
 |.ok _=>False
 |.error e=>CX outer H s E e s'
structure yv (P:Program)(w:World)(K:PySem.W.Frag)(mg:Str->Option Value)(base:Heap)(CX:CXT)(k:Nat)(f:Addr)(fd:FuncData)(ps:List Str)(sp:Sp):Prop where
 len:∀vs H Q E,sp vs H Q E->vs.length=ps.length
 run:∀(A:Around) (outer:List Env) (s:Shared) (H:Hp) (args:Args) (us:List Value) (vs:List V) (Q:VK) (E:XK),zG k A->uS P w K mg base A outer s H->BindsTo s fd args (ps.zip us)->Vals vs us->sp vs H Q E->
  codeAny (model P w) A (.call (.ref f) args) (CR CX outer P w H s Q E) s
theorem yv.imp {P:Program}{w:World}{K:PySem.W.Frag}{mg:Str->Option Value}{base:Heap}{CX:CXT}{k:Nat}{f:Addr}{fd:FuncData}{ps:List Str}{sp a:Sp}(F:yv P w K mg base CX k f fd ps sp)
  (h:∀vs H Q E,a vs H Q E->sp vs H Q E):yv P w K mg base CX k f fd ps a:=
 ⟨λvs H Q E q=>F.len vs H Q E (h _ _ _ _ q),λA outer s H args us vs Q E hr he hb c b=>F.run A outer s H args us vs Q E hr he hb c (h _ _ _ _ b)⟩
theorem uS.make {P:Program}{w:World}{K:PySem.W.Frag}{mg:Str->Option Value}{base:Heap}{A:Around}{outer:List Env}{s:Shared}{H:Hp}(e:uS P w K mg base A outer s H)(C:Addr)(us:List Value)(kw:List (Str×Value)):
  uS P w K mg base (A.under (.builtin "type.__call__" ⟨.ref C::us,kw⟩)) outer s H:=⟨by first|exact e.frames|(simpa[Around.under,Code.envs,Code.isFrame,pushEnvs]using e.frames),e.mod,e.bs,e.bsz,e.funs,e.frf,e.hok,e.bare⟩
theorem uS.in1 {P:Program}{w:World}{K:PySem.W.Frag}{mg:Str->Option Value}{base:Heap}{A:Around}{outer:List Env}{s:Shared}{H:Hp}(e:uS P w K mg base A outer s H):
  uS P w K mg base A.in1 outer s H:=⟨e.frames,e.mod,e.bs,e.bsz,e.funs,e.frf,e.hok,e.bare⟩
section
variable {X:Cx}{pins:List (Addr×Obj)}{σ:St}{H:Hp}{s s':Shared}
theorem Inv.env0 (I:Inv X pins σ H s):uS X.prog X.w X.K X.mg X.base X.A X.stack s H:=
 ⟨I.ok.frames,I.ok.mod,I.bs,zY8 I.ok.bsz I.sz,I.stack,I.stkFree,I.hok,I.bare⟩
theorem Inv.after {Q:VK}{u:Value}(I:Inv X pins σ H s)(h:CE X.stack X.prog X.w H s Q u s'):EP X pins σ Q u s':=by
 obtain⟨v,H',os,bare,un,hok,r,q⟩:=h;obtain⟨c,g,d,t,a⟩:=s';obtain rfl:a=s.os:=os;exact⟨v,H',I.call (h':=c) (g':=g) (d':=d) (t':=t) (ch:=[]) un hok bare (λb z=>absurd z (by simp)),r,q⟩
end
def zQ7 (sp:Sp)(dvs:List V)(E:XK)(t:TA):TE:=λσ H Q=>t σ H λvs H1=>sp (vs++dvs) H1 Q E
def zt1 (C:Addr)(m:Str)(sp:Sp)(dvs:List V)(E:XK)(c:TE)(t:TA):TE:=λσ H Q=>c σ H λx H1=>∃a dx fs,x=.ref a/\H1 a=some (.ins C dx fs)/\fs.lookup m=none/\
 t σ H1 λvs b=>sp (x::(vs++dvs)) b Q E
def zQ3 (C:Addr)(sp:Sp)(dvs:List V)(E:XK)(t:TA):TE:=λσ H Q=>t σ H λvs H1=>∀x dx,H1 x=none->H1 dx=none->dx≠x->
 sp (.ref x::(vs++dvs)) (upd (upd H1 dx (.own x)) x (.ins C dx [])) (λv a=>v=.non/\Q (.ref x) a) E
def Binds (K:PySem.W.Frag)(fd:FuncData)(ps:List Str)(ds:List Value):Prop:=
 ∀(s:Shared) (us:List Value),K.In s.heap->(us++ds).length=ps.length->BindsTo s fd ⟨us,[]⟩ (ps.zip (us++ds))
theorem Binds.all {K:PySem.W.Frag}{fd:FuncData}{ps:List Str}(h:∀us:List Value,us.length=ps.length->bindArgs fd ⟨us,[]⟩=pure (ps.zip us)):Binds K fd ps []:=λs us _ a=>by
 rw[z45]at a ⊢;exact .of_eq (h us a)
def Passes (CX:CXT)(X:Cx)(E:XK):Prop:=∀(pins:List (Addr×Obj)) (σ:St) (H:Hp) (s:Shared) (e:Value) (s':Shared),Inv X pins σ H s->CX X.stack H s E e s'->X.xe e s'
section
variable {X:Cx}{CX:CXT}{k:Nat}{f C:Addr}{fd:FuncData}{ps:List Str}{sp:Sp}{dvs:List V}{ds:List Value}{E:XK}{x m:Str}{p pos apos:Pos}{e o:Expr}{es:List Expr}{ta:TE}{t:TA}
theorem kE {pins:List (Addr×Obj)}{σ:St}{H:Hp}{s:Shared}{Q:VK}{us:List Value}{vs:List V}(F:yv X.prog X.w X.K X.mg X.base CX k f fd ps sp)(hr:zG k X.A)(hb:Binds X.K fd ps ds)(hd:Vals dvs ds)(b:Passes CX X E)
  (I:Inv X pins σ H s) (r:Vals vs us) (h:sp (vs++dvs) H Q E):wpAny (model X.prog X.w) X.A (call (.ref f) us) (EP X pins σ Q) X.xe s:=by
 have a:Vals (vs++dvs) (us++ds):=r.append hd;have c:(us++ds).length=ps.length:=by rw[<-a.length];exact F.len _ _ _ _ h
 refine yc2 (yb5 (F.run X.A X.stack s H ⟨us,[]⟩ (us++ds) (vs++dvs) Q E hr I.env0 (hb s us I.kIn c) a h) λr s' hq=>?_);cases r with
 |error e=>exact b pins σ H s e s' I hq
 |ok fl=>
  cases fl with
  |ret u=>exact I.after hq
  |next=>exact False.elim hq
  |brk=>exact False.elim hq
  |cont=>exact False.elim hq
theorem iI (F:yv X.prog X.w X.K X.mg X.base CX k f fd ps sp)(hr:zG k X.A)(hg:Gl X x)(hm:X.mg x=some (.ref f))(hk:PySem.W.keepIn X.K (.ref f)=true)(hb:Binds X.K fd ps ds)(hd:Vals dvs ds)(d:Passes CX X E)
  (ha:PA X (e::es) t) (b:(x == ("__debug__":Str))=false:=by decide) (he:starEach (e::es) X.env=(false,eval e X.env)::starEach es X.env:=by rfl) (hpl:(backTo pos (starEach es X.env)).any (·.1)=false:=by rfl):
  PE X (.Call (.Name x p) (e::es) [] pos) (zQ7 sp dvs E t):=by
 intro pins s σ H Q I h;refine z71 (xM I hg hm ?_ b);refine z95 (h₀:=X.base) I.ok.mod.kin hk (thn (ha pos pins s σ H _ I h) λus s1 a=>?_) he hpl;obtain⟨vs,H1,c,r,q⟩:=a;refine⟨c.kIn,?_⟩;exact kE F hr hb hd d c r q
theorem zr2 {pl:Sem Bool}(he:PE X o ta)(c:Cls X.K C)(hm:Meth X.K C m f)(F:yv X.prog X.w X.K X.mg X.base CX k f fd ps sp)(hr:zG k X.A)(hb:Binds X.K fd ps ds)(hd:Vals dvs ds)(v:Passes CX X E)(ha:PA X (e::es) t)
  (g:starEach (e::es) X.env=(false,eval e X.env)::starEach es X.env:=by rfl) (hpl:(backTo pos (starEach es X.env)).any (·.1)=false:=by rfl)
  (z:eval (.Call (.Attribute o m apos) (e::es) [] pos) X.env=(do
   let ov <-eval o X.env
   standAt apos.atName
   let(f,first) <-holding [ov] (getMethod ov m pl)
   callWith pos f first (backTo pos (starEach (e::es) X.env)) (backToKw pos (keywordEach [] X.env))):=by rfl):
  PE X (.Call (.Attribute o m apos) (e::es) [] pos) (zt1 C m sp dvs E ta t):=by
 intro pins s σ H Q I h;refine yg4 (pl:=pl) (thn (he pins s σ H _ I h) λu s1 b=>?_) z;obtain⟨x,H1,i,y,a,dx,fs,ex,n,l,q⟩:=b;subst ex;obtain rfl:u=Value.ref a:=y;refine vT i n c hm l ?_;refine z95 (first:=[.ref a]) (h₀:=X.base) I.ok.mod.kin hm.kp (thn (ha pos pins s1 σ H1 _ i q) λus s2 d=>?_) g hpl;obtain⟨vs,D,j,r,B⟩:=d;refine⟨j.kIn,?_⟩;exact kE (us:=.ref a::us) (vs:=.ref a::vs) F hr hb hd v j (.cons rfl r) B
theorem eR {pl:Sem Bool}(he:PE X o ta)(c:Cls X.K C)(hm:Meth X.K C m f)(F:yv X.prog X.w X.K X.mg X.base CX k f fd ps sp)(hr:zG k X.A)(hb:Binds X.K fd ps ds)(hd:Vals dvs ds)(i:Passes CX X E)
  (n:eval (.Call (.Attribute o m apos) [] [] pos) X.env=(do
   let ov <-eval o X.env
   standAt apos.atName
   let(f,first) <-holding [ov] (getMethod ov m pl)
   callWith pos f first (backTo pos (starEach [] X.env)) (backToKw pos (keywordEach [] X.env))):=by rfl):
  PE X (.Call (.Attribute o m apos) [] [] pos) (zt1 C m sp dvs E ta zN8):=by
 intro pins s σ H Q I h;refine yg4 (pl:=pl) (thn (he pins s σ H _ I h) λu s1 b=>?_) n;obtain⟨x,H1,d,j,a,dx,fs,ex,g,l,q⟩:=b;subst ex;obtain rfl:u=Value.ref a:=j;refine vT d g c hm l ?_;exact PySem.W.callWith_K0 (first:=[.ref a]) d.kIn hm.kp (kE (us:=[.ref a]) (vs:=[.ref a]) F hr hb hd i d (.cons rfl .nil) q)
structure Mk (K:PySem.W.Frag)(C f:Addr):Prop where
 makes:PySem.W.makesIn K C=true
 init:PySem.W.findIn K (.ref C) "__init__"=some (some (.ref f))
 fn:PySem.W.isFn K (.ref f)=true
 kp:PySem.W.keepIn K (.ref C)=true
theorem zd8 {pins:List (Addr×Obj)}{σ:St}{H:Hp}{s:Shared}{Q:VK}{us:List Value}{vs:List V}(M:Mk X.K C f)(F:yv X.prog X.w X.K X.mg X.base CX k f fd ps sp)(hr:zG (k+1) X.A)(hb:Binds X.K fd ps ds)(hd:Vals dvs ds)
  (g:Passes CX X E) (I:Inv X pins σ H s) (r:Vals vs us)
  (h:∀x dx,H x=none->H dx=none->dx≠x->sp (.ref x::(vs++dvs)) (upd (upd H dx (.own x)) x (.ins C dx [])) (λv n=>v=.non/\Q (.ref x) n) E):
  wpAny (model X.prog X.w) X.A (call (.ref C) us) (EP X pins σ Q) X.xe s:=by
 have hq:=h (s.heap.objs.size+1) s.heap.objs.size (I.hok.fresh (z82 _)) (I.hok.fresh (zY3 _)) (z01 (z56 _));have b:=Inv.made (C:=C) I;have c:Vals (V.ref (s.heap.objs.size+1)::(vs++dvs)) (Value.ref (s.heap.objs.size+1)::(us++ds)):=.cons rfl (r.append hd);have i:(Value.ref (s.heap.objs.size+1)::us++ds).length=ps.length:=by
  have e:=c.length;rw[F.len _ _ _ _ hq]at e;exact e.symm
 refine yc2 (za5 (f:=f) I.kIn M.makes M.init (yc1.mp M.fn) (yb5 (F.run _ X.stack _ _ ⟨Value.ref (s.heap.objs.size+1)::us,[]⟩ (Value.ref (s.heap.objs.size+1)::(us++ds)) _ _ E (hr.make C us [])
  (b.env0.make C us []) (hb _ (Value.ref (s.heap.objs.size+1)::us) b.kIn i) c hq) λr s' a=>?_))
 cases r with
 |error e=>exact g pins σ _ _ e s' b a
 |ok fl=>
  cases fl with
  |ret u=>
   obtain⟨v,H',l,d,ev,j⟩:=b.after a;subst ev;exact⟨d,⟨V.ref (s.heap.objs.size+1),H',l,rfl,j⟩⟩
  |next=>exact False.elim a
  |brk=>exact False.elim a
  |cont=>exact False.elim a
theorem zp8 (M:Mk X.K C f)(F:yv X.prog X.w X.K X.mg X.base CX k f fd ps sp)(hr:zG (k+1) X.A)(hg:Gl X x)(hm:X.mg x=some (.ref C))(hb:Binds X.K fd ps ds)(hd:Vals dvs ds)(d:Passes CX X E)
  (ha:PA X (e::es) t) (b:(x == ("__debug__":Str))=false:=by decide) (he:starEach (e::es) X.env=(false,eval e X.env)::starEach es X.env:=by rfl) (hpl:(backTo pos (starEach es X.env)).any (·.1)=false:=by rfl):
  PE X (.Call (.Name x p) (e::es) [] pos) (zQ3 C sp dvs E t):=by
 intro pins s σ H Q I h;refine z71 (xM I hg hm ?_ b);refine z95 (h₀:=X.base) I.ok.mod.kin M.kp (thn (ha pos pins s σ H _ I h) λus s1 a=>?_) he hpl;obtain⟨vs,H1,c,r,q⟩:=a;refine⟨c.kIn,?_⟩;exact zd8 M F hr hb hd d c r q
end
section
variable {X:Cx}{CX:CXT}{k:Nat}{f C:Addr}{fd:FuncData}{ps ks:List Str}{sp:Sp}{E:XK}{x m:Str}{p pos apos kpos:Pos}{e o:Expr}{es:List Expr}{kws:List Keyword}{te ta:TE}{t tk:TA}{nm:Option Str}
variable {g:List Value->List Value->List Value}{gV:List V->List V->List V}
end
structure zI (N P:List Str)(sc:Scope):Prop where
 kind:sc.kind=.function
 co:sc.isCoroutine=false
 gen:sc.isGenerator=false
 nd:N.Nodup
 pre:N.take P.length=P
 par:∀x∈P,sc.names.lookup x=some .local\/sc.names.lookup x=some .cell
 nofree:∀y∈sc.names,y.2≠.free
theorem qS {kindOf:Str->Option NameKind}{x:Str}:∀{binds:List (Str×Value)}{m:Str->Option Value},(∀v,(x,v)∉binds)->bindL kindOf binds m x=m x
 |[],_,_=>rfl
 |(n,v)::r,m,h=>by
  unfold bindL;rw[qS λw hw=>h w (zY5 _ hw)];split
  ·have:x≠n:=by rintro rfl;exact h v zY9
   simp[this]
  ·rfl
theorem qL {kindOf:Str->Option NameKind}{x:Str}:∀{binds:List (Str×Value)}{m:Str->Option Value},(∀v,(x,v)∉binds)->bindC kindOf binds m x=m x
 |[],_,_=>rfl
 |(n,v)::r,m,h=>by
  unfold bindC;rw[qL λw hw=>h w (zY5 _ hw)];split
  ·rfl
  ·have:x≠n:=by rintro rfl;exact h v zY9
   simp[this]
theorem qM {kindOf:Str->Option NameKind}{x:Str}{v:Value}:∀{P:List Str}{vs:List Value}{i:Nat}{m:Str->Option Value},P.Nodup->P[i]?=some x->vs[i]?=some v->kindOf x=some .local->
  bindL kindOf (P.zip vs) m x=some v
 |[],_,_,_,_,h,_,_=>by simp at h
 |_::_,[],_,_,_,_,h,_=>by simp at h
 |p::P,w::vs,0,m,nd,a,b,hk=>by
  simp at a b;subst a;subst b;show bindL kindOf ((p,w)::P.zip vs) m p=_;unfold bindL;rw[qS λv c=>(yg7.mp nd).1 (List.of_mem_zip c).1,if_pos hk];simp
 |p::P,w::vs,i+1,m,nd,a,b,hk=>by
  show bindL kindOf ((p,w)::P.zip vs) m x=_;unfold bindL;exact qM (i:=i) (yg7.mp nd).2 (by simpa using a) (by simpa using b) hk
theorem pj {kindOf:Str->Option NameKind}{x:Str}{v:Value}:∀{P:List Str}{vs:List Value}{i:Nat}{m:Str->Option Value},P.Nodup->P[i]?=some x->vs[i]?=some v->kindOf x≠some .local->
  bindC kindOf (P.zip vs) m x=some v
 |[],_,_,_,_,h,_,_=>by simp at h
 |_::_,[],_,_,_,_,h,_=>by simp at h
 |p::P,w::vs,0,m,nd,a,b,hk=>by
  simp at a b;subst a;subst b;show bindC kindOf ((p,w)::P.zip vs) m p=_;unfold bindC;rw[qL λv c=>(yg7.mp nd).1 (List.of_mem_zip c).1,if_neg hk];simp
 |p::P,w::vs,i+1,m,nd,a,b,hk=>by
  show bindC kindOf ((p,w)::P.zip vs) m x=_;unfold bindC;exact pj (i:=i) (yg7.mp nd).2 (by simpa using a) (by simpa using b) hk
def start (N:List Str)(vs:List V):St:=vs.map some++List.replicate (N.length-vs.length) none
def xr (CX:CXT)(P:Program)(w:World)(K:PySem.W.Frag)(mg:Str->Option Value)(base:Heap)(N:List Str)(qual:Str)(scope:Scope)(f:Addr)(cd:Value)(A:Around)(outer:List Env)(s:Shared)(H:Hp)(E:XK):Cx where
 prog:=P
 w:=w
 K:=K
 mg:=mg
 base:=base
 A:=A.deeper (envOfC qual scope s.heap.objs.size f cd)
 N:=N
 s₀:=s
 H₀:=H
 env:=envOfC qual scope s.heap.objs.size f cd
 outer:=outer
 stack:=envOfC qual scope s.heap.objs.size f cd::outer
 ex:=[]
 calm:=true
 fn:=λ_=>true
 pn:=[]
 xe:=λe s'=>wpAny (model P w) (A.deeper (envOfC qual scope s.heap.objs.size f cd)) (leaving (envOfC qual scope s.heap.objs.size f cd) e) (λ_ a=>CX outer H s E e a) (λb a=>CX outer H s E b a) s'
theorem nP {sc:Scope}{n:Nat}{x:Str}(h:sc.names.lookup x=some .cell):∃c,(cellsFrom n sc.names []).lookup x=some c:=by
 have q:=PySem.W.cellsFrom_some sc.names n [] (.inl h);exact ye2.mp q
theorem gk {CX:CXT}{P:Program}{w:World}{K:PySem.W.Frag}{mg:Str->Option Value}{base:Heap}{N ps:List Str}{qual:Str}{scope:Scope}{f:Addr}{cd:Value}{A:Around}{outer:List Env}{s s1:Shared}{H:Hp}{E:XK}{us:List Value}{vs:List V}
  (S:zI N ps scope) (hd:A.handled=none) (g:uS P w K mg base A outer s H) (t:vs.length=ps.length) (r:Vals vs us)
  (x:InCallC s s.heap.objs.size (bindL (envOfC qual scope s.heap.objs.size f cd).kindOf (ps.zip us) λ_=>none) (cellsFrom (s.heap.objs.size+1) scope.names []) (bindC (envOfC qual scope s.heap.objs.size f cd).kindOf (ps.zip us) λ_=>none) s1):
  Inv (xr CX P w K mg base N qual scope f cd A outer s H E) [] (start N vs) H s1:=by
 have hpl:ps.length<=N.length:=by have:=congrArg List.length S.pre;rw[z46]at this;exact zY8 (zZ7 this.symm) (yg2 _ _)
 obtain⟨o,tk,rfl,hk⟩:=x.done;have j:∀b:Addr,b∉(xr CX P w K mg base N qual scope f cd A outer s H E).ex:=λb z=>absurd (show b∈([]:List Addr)from z) (by simp);refine⟨⟨g.mod,S.kind,rfl,rfl,zY3 _,λy z c o d=>?_,λy hy=>?_,λy c _ h=>?_,λ_=>hd,Around.frames_deeper g.frames,.inr ⟨rfl,rfl⟩,λb z=>absurd z (j b),g.bs,g.bsz,λb _ _=>j b,λb z=>absurd z (j b),g.funs,g.frf⟩,
  rfl,g.bare,Un.kept hk,⟨_,x.toInCall.ns,λi y v o d D=>?_⟩,λy c h=>⟨_,x.cell y c h⟩,g.hok.fresh (zY3 _),λy c h=>?_,λp l=>absurd (show p∈([]:List (Addr×Obj))from l) (by simp),g.hok.kept hk,?_⟩
 ·exact name_of_addr x.apart (z48 o) (z48 d)
 ·have hy:scope.names.lookup y=some .cell\/scope.names.lookup y=some .free:=hy;rcases hy with hy|hy
  ·exact nP hy
  ·exact absurd rfl (S.nofree _ (z48 hy))
 ·exact z30 (x.above y c (z48 h))
 ·have hi:i<vs.length:=by
   unfold start at d;by_cases hi:i<vs.length
   ·exact hi
   ·rw[z38 (by simpa using hi)]at d;rw[z61]at d;split at d<;>cases d
  have ha:vs[i]?=some v:=by
   unfold start at d;rw[z22 (by simpa using hi),zY7]at d;cases e:vs[i]? with
   |none=>rw[e]at d;cases d
   |some a=>rw[e]at d;cases d;rfl
  obtain⟨u,B,C⟩:=r.get ha;have l:ps[i]?=some y:=by rw[<-S.pre,List.getElem?_take_of_lt (zX9 hi (zZ7 t))];exact o
  have m:ps.Nodup:=by rw[<-S.pre];exact S.nd.sublist (List.take_sublist _ _)
  refine⟨u,C,?_⟩;rcases S.par y (z24 l)with k|k
  ·exact .inl ⟨k,qM m l B k⟩
  ·obtain⟨c,e⟩:=nP (n:=s.heap.objs.size+1) k;refine .inr ⟨.inl k,c,e,?_⟩;have q:=x.cell y c e;rw[pj m l B (by show scope.names.lookup y≠_;rw[k];decide)]at q;exact q
 ·exact g.hok.fresh (z30 (x.above y c (z48 h)))
 ·unfold start;show _=N.length;rw[z04,zX8,yb6];exact zR2 t hpl
theorem ia {CX:CXT}{P:Program}{w:World}{K:PySem.W.Frag}{mg:Str->Option Value}{base:Heap}{k:Nat}{f:Addr}{name qual:Str}{params:Arguments}{body:List Stmt}{scope:Scope}{dV kV doc pm cdv ct oc:Value}{an od:Option Addr}
  {osl:Array (Option Value)} {N ps:List Str} {sp:Sp} (z:K.lookup f=some ⟨oc,od,.func (PySem.W.fnOf name qual params body scope dV kV doc pm an cdv ct),osl⟩) (m:PySem.W.codeIn K cdv qual=true) (S:zI N ps scope)
  (len:∀vs H Q E,sp vs H Q E->vs.length=ps.length)
  (d:∀(A:Around) (outer:List Env) (s:Shared) (H:Hp) (vs:List V) (Q:VK) (E:XK),zG k (A.deeper (envOfC qual scope s.heap.objs.size f cdv))->sp vs H Q E->
   ∃t,PSs (xr CX P w K mg base N qual scope f cdv A outer s H E) body t/\t {nx:=λ_ H'=>Q .non H',rt:=Q} (start N vs) H):
  yv P w K mg base CX (k+1) f (PySem.W.fnOf name qual params body scope dV kV doc pm an cdv ct) ps sp:=by
 refine⟨len,λA outer s H args us vs Q E hr j hb r i=>?_⟩;have B:=len _ _ _ _ i;have p:K.In s.heap:=j.mod.kin.keeps λb o e=>(j.bs b o e).1;have lim:s.heap.NoLimit:=j.mod.nolimit.keeps λb o e=>(j.bs b o e).1;have c:∀y∈ps.zip us,scope.names.lookup y.1=some .local\/(scope.names.lookup y.1=some .cell/\((cellsFrom (s.heap.objs.size+1) scope.names []).lookup y.1).isSome=true):=λh hy=>by
  obtain⟨n,v⟩:=h;rcases S.par n (List.of_mem_zip hy).1 with q|q
  ·exact .inl q
  ·exact .inr ⟨q,PySem.W.cellsFrom_some _ _ _ (.inl q)⟩
 refine codeAny_call_function hr.depth (p _ _ z) rfl S.co S.gen rfl (PySem.W.codeRec_of p m) (hb _ _ _ _ ?_);refine wpAny_newFunctionEnv_cells S.kind c λenv he s1 x=>?_;subst he;refine⟨lim.keeps x.toInCall.keep,codeAny_func ?_⟩;obtain⟨t,C,hq⟩:=d A outer s H vs Q E (hr.deeper _) i;have I:Inv (xr CX P w K mg base N qual scope f cdv A outer s H E) [] (start N vs) H s1:=gk S hr.hd j B r x;refine z31 (C [] s1 (start N vs) H _ I hq) (λfl s' g=>?_) λe s' g=>g;have fin:∀{a:St} {H':Hp} {v:V} {u:Value},Inv (xr CX P w K mg base N qual scope f cdv A outer s H E) [] a H' s'->RelV v u->Q v H'->CE outer P w H s Q u s':=
  λ{a H' v u} J l q=>⟨v,H',J.os,J.bare,J.base,J.hok,l,q⟩
 cases fl with
 |ret u=>
  obtain⟨v,a,H',J,l,q⟩:=g;exact fin J l q
 |next=>
  obtain⟨a,H',J,q⟩:=g;exact fin (v:=V.non) (u:=Value.none) J rfl q
 |brk=>
  obtain⟨_,_,_,q⟩:=g;exact False.elim q
 |cont=>
  obtain⟨_,_,_,q⟩:=g;exact False.elim q
section
variable {X:Cx}{x:Str}{p pos:Pos}{e:Expr}{es:List Expr}{t:TA}{id T:String}{r:List V->Hp->VK->Prop}
def tCB (r:List V->Hp->VK->Prop)(t:TA):TE:=λσ H Q=>t σ H λvs H1=>r vs H1 Q
theorem nQ (f:xi X (.builtin id) r)(hg:Gl X x)(hm:X.mg x=none)(g:bootBuiltins x=some (.builtin id))(ha:PA X (e::es) t)(hn:x≠"__name__":=by decide)(b:(x == ("__debug__":Str))=false:=by decide)
  (he:starEach (e::es) X.env=(false,eval e X.env)::starEach es X.env:=by rfl) (hpl:(backTo pos (starEach es X.env)).any (·.1)=false:=by rfl):PE X (.Call (.Name x p) (e::es) [] pos) (tCB r t):=by
 intro pins s σ H Q I h;refine z71 (yU I hg hm g ?_ hn b);exact PyProof.Rows.callWith_builtin1 (thn (ha pos pins s σ H _ I h) λus s1 a=>by obtain⟨vs,H1,c,i,d⟩:=a;exact f pins s1 σ H1 vs us Q c i d) he hpl
theorem wt (f:xi X (.type T) r)(hg:Gl X x)(hm:X.mg x=none)(g:bootBuiltins x=some (.type T))(ha:PA X (e::es) t)(hn:x≠"__name__":=by decide)(b:(x == ("__debug__":Str))=false:=by decide)
  (he:starEach (e::es) X.env=(false,eval e X.env)::starEach es X.env:=by rfl) (hpl:(backTo pos (starEach es X.env)).any (·.1)=false:=by rfl):PE X (.Call (.Name x p) (e::es) [] pos) (tCB r t):=by
 intro pins s σ H Q I h;refine z71 (yU I hg hm g ?_ hn b);exact z32 (thn (ha pos pins s σ H _ I h) λus s1 a=>by obtain⟨vs,H1,c,i,d⟩:=a;exact f pins s1 σ H1 vs us Q c i d) he hpl
end
end L2
namespace HT
open PySem PyProof.Rows
section
open PySem.SeqAt
open PySem.AutoSeq1 (wpAny_loadPart')
open PySem.MeetsSeq PySem.MeetsSeq2 PySem.MeetsSeq3
end
section
variable {prog:Program}{w:World}{A:Around}{E:Value->Shared->Prop}{s:Shared}
def sIx (n d:Nat):Option Int->Nat
 |none=>d
 |some v=>if v<0 then(v+(n:Int)).toNat else min v.toNat n
theorem rR (n d:Nat):sIx n d none=d:=rfl
theorem iK (n d k:Nat):sIx n d (some (k:Int))=min k n:=by
 show(if(k:Int)<0 then((k:Int)+(n:Int)).toNat else min (k:Int).toNat n)=min k n;rw[if_neg (Int.not_lt.2 (yi2 _)),yf5]
end
end HT
namespace L2
open PySem PySem.Spec PyProof.Rows
abbrev TO :=St->Hp->(Option Int->Hp->Prop)->Prop
def PO (X:Cx)(e:Option Expr)(t:TO):Prop:=
 ∀(pins:List (Addr×Obj)) (s:Shared) (σ:St) (H:Hp) (Q:Option Int->Hp->Prop),Inv X pins σ H s->t σ H Q->
  wpAny (model X.prog X.w) X.A (evalPart e X.env) (λu s'=>∃o H',Inv X pins σ H' s'/\IsPart u o/\Q o H') X.xe s
def zn6 :TO:=λ_ H Q=>Q none H
def zL9 (t:TE):TO:=λσ H Q=>t σ H λx H1=>∃i,x=.int i/\Q (some i) H1
section
variable {X:Cx}{e:Expr}{te:TE}{lo hi:Option Expr}{tl th:TO}{pos p2:Pos}
theorem iM :PO X none zn6:=by
 intro pins s σ H Q I h;rw[evalPart_none];exact zY4 ⟨none,H,I,.none,h⟩
theorem jH (h:PE X e te):PO X (some e) (zL9 te):=by
 intro pins s σ H Q I hw;rw[evalPart_some];refine thn (h pins s σ H _ I hw) λu s1 a=>?_;obtain⟨x,H1,b,d,c⟩:=a;obtain⟨i,rfl,q⟩:=c;obtain⟨t,rfl⟩:=d;exact⟨some i,H1,b,.int i t,q⟩
def SlR (X:Cx)(r:V->Option Int->Option Int->Hp->VK->Prop):Prop:=
 ∀(pins:List (Addr×Obj)) (s:Shared) (σ:St) (H:Hp) (x:V) (v b a:Value) (lo hi:Option Int) (sl:Addr) (Q:VK),Inv X pins σ H s->RelV x v->s.heap.IsSliceOf sl b a .none->IsPart b lo->IsPart a hi->r x lo hi H Q->
  ∃T id,typeLookup (.type T) "__getitem__"=pure (some (.builtin id))/\s.TypeIs v T/\wpAny (model X.prog X.w) X.A (getItem v (.ref sl)) (EP X pins σ Q) X.xe s
def tSl (r:V->Option Int->Option Int->Hp->VK->Prop)(te:TE)(tl th:TO):TE:=λσ H Q=>te σ H λx H1=>tl σ H1 λl a=>th σ a λu H3=>r x l u H3 Q
theorem lh {r:V->Option Int->Option Int->Hp->VK->Prop}(hr:SlR X r)(he:PE X e te)(d:PO X lo tl)(y:PO X hi th):PE X (.Subscript e (.Slice lo hi none p2) pos) (tSl r te tl th):=by
 intro pins s σ H Q I h;refine Subscript_ (thn (he pins s σ H _ I h) λv s1 ⟨x,H1,m,i,p⟩=>?_);refine wpAny_Slice (thn (d pins s1 σ H1 _ m p) λa s2 ⟨l,n,o,pl,t⟩=>thn (y pins s2 σ n _ o t) λc s3 ⟨u,H3,j,pu,g⟩=>?_);rw[evalPart_none];refine zY4 ?_;have k:Inv X pins σ H3 {s3 with heap:=s3.heap.push {cls:=.type "slice",data:=.fields #[a,c,.none]}}:=j.kept (t':=s3.toks) λb ob q=>zX7 _ q;obtain⟨T,id,hT,f,hg⟩:=hr pins {s3 with heap:=s3.heap.push {cls:=.type "slice",data:=.fields #[a,c,.none]}} σ H3 x v a c l u s3.heap.objs.size Q k i (Heap.IsSliceOf.new ..) pl pu g;show wpAny (model X.prog X.w) X.A (subscriptTail e (.Slice lo hi none p2) v (.ref s3.heap.objs.size)) (EP X pins σ Q) X.xe {s3 with heap:=s3.heap.push {cls:=.type "slice",data:=.fields #[a,c,.none]}};exact tail_any (ops:=[.ref s3.heap.objs.size,v]) f hT hg (by with_unfolding_all rfl)
def nG (xs:List V)(lo hi:Option Int):List V:=(xs.drop (HT.sIx xs.length 0 lo)).take (HT.sIx xs.length xs.length hi-HT.sIx xs.length 0 lo)
theorem nX (xs:List V)(lo hi:Option Int):(nG xs lo hi).length<=xs.length:=by
 unfold nG;rw[z46,yc3];exact zY8 (yg2 _ _) (Nat.sub_le _ _)
end
def ixN (n:Nat)(i:Int):Option Nat:=if 0<=i then(if i<n then some i.toNat else none)else if -(n:Int)<=i then some (i+n).toNat else none
def atI {α:Type}(xs:List α)(i:Int):Option α:=(ixN xs.length i).bind λj=>xs[j]?
theorem ig {n:Nat}{i:Int}{j:Nat}(h:ixN n i=some j):seqIndex? i n=some j/\j<n/\-(n:Int)<=i/\i<n:=by
 unfold ixN at h;by_cases h0:0<=i
 ·rw[if_pos h0]at h;by_cases a:i<n
  ·rw[if_pos a]at h;have e:i.toNat=j:=z09 h;exact⟨by rw[seqIndex_of h0 a,e],by lia,by lia,a⟩
  ·rw[if_neg a]at h;cases h
 ·rw[if_neg h0]at h;by_cases a:-(n:Int)<=i
  ·rw[if_pos a]at h;have e:(i+n).toNat=j:=z09 h;exact⟨by rw[seqIndex_neg (yg9.1 h0) a,e],by lia,a,(Int.lt_of_lt_of_le (yg9.1 h0) (yi2 _))⟩
  ·rw[if_neg a]at h;cases h
theorem pQ {α:Type}{xs:List α}{i:Int}{v:α}(h:atI xs i=some v):∃j,seqIndex? i xs.length=some j/\xs[j]?=some v/\j<xs.length/\-(xs.length:Int)<=i/\i<xs.length:=by
 unfold atI at h;cases e:ixN xs.length i with
 |none=>rw[e]at h;cases h
 |some j=>
  rw[e]at h;obtain⟨b,c,a,d⟩:=ig e;exact⟨j,b,h,c,a,d⟩
theorem pH {α:Type}{xs:List α}{j:Nat}{v:α}(h:xs[j]?=some v):atI xs (j:Int)=some v:=by
 have a:j<xs.length:=(zY0.mp h).1;have e:ixN xs.length (j:Int)=some j:=by
  unfold ixN;rw[if_pos (yi2 _),if_pos (Int.ofNat_lt.2 a)];simp
 unfold atI;rw[e];exact h
def oh (b:Expr):Prop:=∀o i,subscripted b false o i=operate [o,i] (getItem o i)
def IxR (X:Cx)(r:R2):Prop:=
 ∀(value slice:Expr) (pins:List (Addr×Obj)) (s:Shared) (σ:St) (H:Hp) (x y:V) (v u:Value) (Q:VK),Inv X pins σ H s->RelV x v->RelV y u->r x y H Q->
  subscripted slice false v u=operate [v,u] (getItem v u)->wpAny (model X.prog X.w) X.A (subscriptTail value slice v u) (EP X pins σ Q) X.xe s
def MtR (X:Cx)(id:String)(r:V->List V->Hp->VK->Prop):Prop:=
 ∀(pins:List (Addr×Obj)) (s:Shared) (σ:St) (H:Hp) (x:V) (xs:List V) (v:Value) (us:List Value) (Q:VK),Inv X pins σ H s->RelV x v->Vals xs us->r x xs H Q->
  wpAny (model X.prog X.w) X.A (call (.builtin id) (v::us)) (EP X pins σ Q) X.xe s
section
variable {X:Cx}{a b:Expr}{ta tb:TE}{pos:Pos}
theorem IxR.or {r f:R2}(h:IxR X r)(h':IxR X f):IxR X (λx y H Q=>r x y H Q\/f x y H Q):=by
 intro value slice pins s σ H x y v u Q I e c q d;rcases q with q|q
 ·exact h value slice pins s σ H x y v u Q I e c q d
 ·exact h' value slice pins s σ H x y v u Q I e c q d
theorem vR {r:R2}(hr:IxR X r)(ha:PE X a ta)(hb:PE X b tb)(f:oh b):PE X (.Subscript a b pos) (tOp r ta tb):=by
 intro pins s σ H Q I h;exact Subscript_ (zC2 ha hb I h λv u s2 x y d e g c q=>hr a b pins s2 σ d x y v u Q e g c q (f _ _))
def zT2 (K:PySem.W.Frag):R2:=λx y H Q=>∃p xs i v,x=.ref p/\y=.int i/\SqL K H p xs/\atI xs i=some v/\Q v H
def zJ7 (K:PySem.W.Frag):R2:=λx y H Q=>∃p xs i v,x=.ref p/\y=.int i/\SqT K H p xs/\atI xs i=some v/\Q v H
def zT3 :R2:=λx y H Q=>∃z i c,x=.str z/\y=.int i/\z.length<=sizeLine/\atI z.cps.toList i=some c/\Q (.str ⟨#[c]⟩) H
theorem xq :IxR X (zT2 X.K):=by
 intro value slice pins s σ H x y v u Q I n o h f;obtain⟨p,xs,i,z,rfl,rfl,hq,he,q⟩:=h;cases n;obtain⟨t,rfl⟩:=o;obtain⟨its,r,pl,hz⟩:=I.list hq;obtain⟨j,c,A,B,k,l⟩:=pQ he;obtain⟨w,g,e⟩:=r.get A;have m:=r.length;have hn:=uO;have fin:EP X pins σ Q w s:=⟨z,H,I,e,q⟩;by_cases h0:0<=i
 ·have d:i.toNat=j:=by
   rw[seqIndex_of h0 l]at c;exact z09 c
  exact item_listR pl.isList h0 (bI hn l hz) (by rw[d];simpa using g) fin f
 ·have d:(i+(its.toArray.size:Int)).toNat=j:=by
   rw[seqIndex_neg (yg9.1 h0) k]at c;rw[zZ5,<-m];exact z09 c
  exact subscriptTail_builtinR (x:=w) pl.isList.typeIs slot_list_getitem.lookup
   (wpAny_getItem_list_neg (Q:=λr s'=>r=w/\EP X pins σ Q r s') pl.isList (yg9.1 h0) (by rw[zZ5]<;>lia) (aX k hz hn) (by rw[d];simpa using g) ⟨rfl,fin⟩) f
theorem dS :IxR X (zJ7 X.K):=by
 intro value slice pins s σ H x y v u Q I g l h e;obtain⟨p,xs,i,z,rfl,rfl,hq,he,q⟩:=h;cases g;obtain⟨t,rfl⟩:=l;obtain⟨its,r,pl,hz⟩:=I.tuple hq;obtain⟨j,d,n,A,m,o⟩:=pQ he;obtain⟨w,k,c⟩:=r.get n;have f:=r.length;have hn:=uO;have fin:EP X pins σ Q w s:=⟨z,H,I,c,q⟩;exact subscriptTail_builtinR (x:=w) pl.typeIs slot_tuple_getitem.lookup
  (getItem_tuple (j:=j) (Q:=λr s'=>r=w/\EP X pins σ Q r s') pl (aX m hz hn) (bI hn o hz) (by rw[zZ5,<-f];exact d) (by simpa using k) ⟨rfl,fin⟩) e
theorem zI2 :IxR X zT3:=by
 intro value slice pins s σ H x y v u Q I m e h g;obtain⟨z,i,c,rfl,rfl,hz,he,q⟩:=h;obtain⟨t,rfl⟩:=m;obtain⟨t',rfl⟩:=e;obtain⟨j,d,n,p,f,o⟩:=pQ he;have k:z.cps.toList.length=z.length:=by simp[Str.length]
 rw[k]at d f o;have hn:=uO;exact tail_any (typeIs_str s z t) slot_str_getitem.lookup (getItem_str (c:=c) (by
  have e1:decide (i < -(2 ^ 63:Int))=false:=z06 (by lia);have l:decide (i≥2 ^ 63)=false:=z06 (by lia);rw[e1,l,yd0]) (by rw[d];simpa using n) ⟨.str ⟨#[c]⟩,H,I.tok _,⟨_,rfl⟩,q⟩) g
def rIx (K:PySem.W.Frag):R2:=λx y H Q=>zT2 K x y H Q\/zJ7 K x y H Q\/zT3 x y H Q
theorem zA4 :IxR X (rIx X.K):=xq.or (dS.or zI2)
theorem ko (its:List Value)(n j:Nat)(u:Value):Obj.mapSeq (·.setIfInBounds j u) {cls:=.type "list",data:=.seq its.toArray n}={cls:=.type "list",data:=.seq (its.set j u).toArray n}:=by simp[Obj.mapSeq]
theorem Inv.lst {pins:List (Addr×Obj)}{σ:St}{H:Hp}{s:Shared}{p:Addr}{xs:List V}(I:Inv X pins σ H s)(h:H p=some (.lst xs)):
  ∃(its:List Value) (n:Nat),Vals xs its/\s.heap.get? p=some {cls:=.type "list",data:=.seq its.toArray n}/\xs.length<=sizeLine:=by
 obtain⟨z,its,n,r,e⟩:=I.hok p _ h;exact⟨its,n,r,e,z⟩
theorem Inv.lstUpd {pins:List (Addr×Obj)}{σ:St}{H:Hp}{s:Shared}{p:Addr}{xs ys:List V}{its its':List Value}{n c:Nat}{f:Obj->Obj}(I:Inv X pins σ H s)(h:H p=some (.lst xs))
  (d:s.heap.get? p=some {cls:=.type "list",data:=.seq its.toArray n}) (hf:f {cls:=.type "list",data:=.seq its.toArray n}={cls:=.type "list",data:=.seq its'.toArray c}) (r:Vals ys its') (hz:ys.length<=sizeLine) (t:Nat):
  Inv X pins σ (upd H p (.lst ys)) {s with heap:=s.heap.update p f,toks:=t}:=by
 have e:(s.heap.update p f).get? p=some {cls:=.type "list",data:=.seq its'.toArray c}:=by rw[z49 f d (by rw[hf]<;>rfl),hf]
 refine I.write (x:=p) (e:=p) (by rw[h];trivial) (.inl rfl) (λb u hb q=>(zZ2 _ _ (z23 hb)).trans q) ⟨_,e⟩ ?_;exact⟨hz,its',c,r,e⟩
def zu8 :V->V->V->Hp->(Hp->Prop)->Prop:=λo i v H Q=>∃p xs k j,o=.ref p/\i=.int k/\H p=some (.lst xs)/\ixN xs.length k=some j/\Q (upd H p (.lst (xs.set j v)))
theorem set_list :zS7 X zu8:=by
 intro pins s σ H o i v B A u Q I y z x h;obtain⟨p,xs,k,j,rfl,rfl,l,w,q⟩:=h;cases y;obtain⟨t,rfl⟩:=z;obtain⟨its,n,r,d,hz⟩:=I.lst l;obtain⟨c,C,e,g⟩:=ig w;have f:=r.length;have hn:=uO;have m:Inv X pins σ (upd H p (.lst (xs.set j v))) {s with heap:=s.heap.update p (Obj.mapSeq (·.setIfInBounds j u))}:=
  I.lstUpd l d (ko its n j u) (r.set x j) (by rw[z28];exact hz) s.toks
 by_cases h0:0<=k
 ·have hk:k.toNat=j:=by
   rw[seqIndex_of h0 g]at c;exact z09 c
  exact PySem.W.ki_setAt d h0 (bI hn g hz) (by rw[zZ5,<-f];exact g) (by rw[hk];exact⟨_,m,q⟩)
 ·have hk:(k+(its.toArray.size:Int)).toNat=j:=by
   rw[seqIndex_neg (yg9.1 h0) e]at c;rw[zZ5,<-f];exact z09 c
  exact PySem.W.ki_setBack d (yg9.1 h0) (by rw[zZ5,<-f];exact e) (aX e hz hn) (by rw[hk];exact⟨_,m,q⟩)
theorem oo (lo hi:Option Int)(n:Nat):(sliceBounds lo hi none n).1=((HT.sIx n 0 lo:Nat):Int)/\(sliceBounds lo hi none n).2.1=((HT.sIx n n hi:Nat):Int)/\(sliceBounds lo hi none n).2.2=1:=by
 refine⟨?_,?_,rfl⟩
 ·cases lo with
  |none=>simp[sliceBounds,HT.sIx]
  |some i=>
   simp only[sliceBounds,HT.sIx,Option.getD_none,show(1:Int) > 0 by decide,ya8];by_cases h:i<0
   ·simp only[h,ya8]<;>exact zv7 h
   ·simp only[h,z87]<;>exact zu7
 ·cases hi with
  |none=>simp[sliceBounds,HT.sIx]
  |some i=>
   simp only[sliceBounds,HT.sIx,Option.getD_none,show(1:Int) > 0 by decide,ya8];by_cases h:i<0
   ·simp only[h,ya8]<;>exact zv7 h
   ·simp only[h,z87]<;>exact zu7
theorem qh (its:List Value)(lo hi:Option Int):slicePick its.toArray lo hi none=((its.drop (HT.sIx its.length 0 lo)).take (HT.sIx its.length its.length hi-HT.sIx its.length 0 lo)).toArray:=by
 obtain⟨e,c,d⟩:=oo lo hi its.toArray.size;unfold slicePick;rw[e,c,d];simp only[sliceRange_one,pick_run,zZ5]<;>rfl
def zW0 (K:PySem.W.Frag):V->Option Int->Option Int->Hp->VK->Prop:=λx lo hi H Q=>∃a xs,x=.ref a/\SqL K H a xs/\∀p,H p=none->Q (.ref p) (upd H p (.lst (nG xs lo hi)))
theorem jB :SlR X (zW0 X.K):=by
 intro pins s σ H x v i g lo hi sl Q I f e pl pu h;obtain⟨a,xs,rfl,d,q⟩:=h;cases f;obtain⟨its,r,c,hz⟩:=I.list d;have hlen:=r.length;refine⟨"list",_,slot_list_getitem.lookup,c.isList.typeIs,?_⟩;refine wpAny_getItem_list_slice c.isList e pl pu .none (by simp) ?_ (by rw[zZ5]<;>exact zY8 (zZ7 hlen.symm) hz);rw[qh,<-hlen];refine⟨.ref s.heap.objs.size,_,I.laid (t':=s.toks) (o:=.lst (nG xs lo hi)) (λb ob q=>zX7 _ q) (zY3 _) ?_,rfl,q _ (I.hok.fresh (zY3 _))⟩;exact⟨zY8 (nX xs lo hi) hz,_,0,(r.drop (HT.sIx xs.length 0 lo)).take (HT.sIx xs.length xs.length hi-HT.sIx xs.length 0 lo),zZ0 _ rfl⟩
def vQ :V->Bool
 |.non=>true
 |.bl _=>true
 |.int _=>true
 |.str _=>true
 |_=>false
def eqV :V->V->Bool
 |.non,.non=>true
 |.bl a,.bl b=>a == b
 |.bl a,.int b=>(if a then 1 else 0)==b
 |.int a,.bl b=>a == (if b then 1 else 0)
 |.int a,.int b=>a == b
 |.str a,.str b=>a == b
 |_,_=>false
theorem zH9 {A:Around}{s:Shared}{y x:V}{u v:Value}(d:RelV y u)(c:RelV x v)(f:vQ y=true)(e:vQ x=true):SeqAt.EqAt A s u v (eqV y x):=by
 cases y with
 |non=>
  cases d;cases x with
  |non=>cases c;exact SeqAt.EqAt.same _
  |bl b=>cases c;exact SeqAt.EqAt.none_bool b
  |int b=>obtain⟨t,rfl⟩:=c;exact SeqAt.EqAt.none_int b t
  |str b=>obtain⟨t,rfl⟩:=c;exact SeqAt.EqAt.none_str b t
  |_=>exact absurd (show false=true from e) z03
 |bl a=>
  cases d;cases x with
  |non=>cases c;exact SeqAt.EqAt.bool_none a
  |bl b=>cases c;exact SeqAt.EqAt.bool_bool a b
  |int b=>obtain⟨t,rfl⟩:=c;exact SeqAt.EqAt.bool_int a b t
  |str b=>obtain⟨t,rfl⟩:=c;exact SeqAt.EqAt.bool_str a b t
  |_=>exact absurd (show false=true from e) z03
 |int a=>
  obtain⟨t',rfl⟩:=d;cases x with
  |non=>cases c;exact SeqAt.EqAt.int_none a t'
  |bl b=>cases c;exact SeqAt.EqAt.int_bool a t' b
  |int b=>obtain⟨t,rfl⟩:=c;exact SeqAt.EqAt.int_int a t' b t
  |str b=>obtain⟨t,rfl⟩:=c;exact SeqAt.EqAt.int_str a t' b t
  |_=>exact absurd (show false=true from e) z03
 |str a=>
  obtain⟨t',rfl⟩:=d;cases x with
  |non=>cases c;exact SeqAt.EqAt.str_none a t'
  |bl b=>cases c;exact SeqAt.EqAt.str_bool a t' b
  |int b=>obtain⟨t,rfl⟩:=c;exact SeqAt.EqAt.str_int a t' b t
  |str b=>obtain⟨t,rfl⟩:=c;exact SeqAt.EqAt.str_str a t' b t
  |_=>exact absurd (show false=true from e) z03
 |_=>exact absurd (show false=true from f) z03
def eqU (x:V)(u:Value):Bool:=match u with
 |.none=>eqV .non x
 |.bool b=>eqV (.bl b) x
 |.int i _=>eqV (.int i) x
 |.str z _=>eqV (.str z) x
 |_=>false
theorem dZ {x y:V}{u:Value}(r:RelV y u)(f:vQ y=true):eqU x u=eqV y x:=by
 cases y with
 |non=>cases r;rfl
 |bl b=>cases r;rfl
 |int i=>obtain⟨t,rfl⟩:=r;rfl
 |str z=>obtain⟨t,rfl⟩:=r;rfl
 |_=>exact absurd (show false=true from f) z03
theorem tT {x:V}{xs:List V}{us:List Value}(h:Vals xs us)(f:xs.all vQ=true):us.any (eqU x)=xs.any λy=>eqV y x:=by
 induction h with
 |nil=>rfl
 |cons r _ c=>
  rw[yi5,z07]at f;rw[z84,z84,dZ r f.1,c f.2]
theorem vn {A:Around}{s:Shared}{x:V}{v:Value}(e:RelV x v)(d:vQ x=true):∀{xs:List V}{us:List Value},Vals xs us->xs.all vQ=true->∀u∈us,SeqAt.EqAt A s u v (eqU x u)
 |_,_,.nil,_=>λu c=>by cases c
 |y::xs,u::us,.cons r t,f=>λg c=>by
  rw[yi5,z07]at f;rcases zY2.mp c with rfl|c
  ·rw[dZ r f.1];exact zH9 r e f.1 d
  ·exact vn e d t f.2 g c
def inV (x:V)(xs:List V):Bool:=xs.any λy=>eqV y x
def rIn (K:PySem.W.Frag)(neg:Bool):R2:=λx y H Q=>∃p xs,y=.ref p/\(SqL K H p xs\/SqT K H p xs)/\vQ x=true/\xs.all vQ=true/\Q (.bl (if neg then !inV x xs else inV x xs)) H
theorem gn :OpR X (compareOp .In) (rIn X.K false):=by
 intro pins s σ H x y v u Q I d e h;obtain⟨p,xs,rfl,hq,c,fs,q⟩:=h;cases e;rcases hq with hq|hq
 ·obtain⟨its,r,pl,hz⟩:=I.list hq;refine SeqAt.in_listAt (eqU x) pl.isList (λw hw=>vn d c r fs w (by simpa using hw)) ⟨.bl _,H,I,rfl,?_⟩;rw[show its.toArray.any (eqU x)=its.any (eqU x) by simp,tT r fs];exact q
 ·obtain⟨its,r,pl,hz⟩:=I.tuple hq;refine SeqAt.in_tupleAt (eqU x) pl (λw hw=>vn d c r fs w (by simpa using hw)) ⟨.bl _,H,I,rfl,?_⟩;rw[show its.toArray.any (eqU x)=its.any (eqU x) by simp,tT r fs];exact q
theorem pM :OpR X (compareOp .NotIn) (rIn X.K true):=by
 intro pins s σ H x y v u Q I d e h;obtain⟨p,xs,rfl,hq,c,fs,q⟩:=h;cases e;rcases hq with hq|hq
 ·obtain⟨its,r,pl,hz⟩:=I.list hq;refine SeqAt.notIn_listAt (eqU x) pl.isList (λw hw=>vn d c r fs w (by simpa using hw)) ⟨.bl _,H,I,rfl,?_⟩;rw[show its.toArray.any (eqU x)=its.any (eqU x) by simp,tT r fs];exact q
 ·obtain⟨its,r,pl,hz⟩:=I.tuple hq;refine SeqAt.notIn_tupleAt (eqU x) pl (λw hw=>vn d c r fs w (by simpa using hw)) ⟨.bl _,H,I,rfl,?_⟩;rw[show its.toArray.any (eqU x)=its.any (eqU x) by simp,tT r fs];exact q
theorem oN :xi X (.builtin "len") (λxs H Q=>∃p ys,xs=[.ref p]/\(SqL X.K H p ys\/SqT X.K H p ys)/\Q (.int ys.length) H):=by
 intro pins s σ H xs us Q I r h;obtain⟨p,ys,rfl,hq,q⟩:=h;obtain⟨u,rfl,d⟩:=vals1 r;cases d;have hn:=uO;rcases hq with hq|hq
 ·obtain⟨its,c,pl,hz⟩:=I.list hq;have hlen:=c.length;exact Calls.call_len_list pl.isList (by simp only[zZ5]<;>exact zs0 hn hlen hz) ⟨.int ys.length,H,I.tok _,⟨s.toks+1,by rw[zZ5,hlen]⟩,q⟩
 ·obtain⟨its,c,pl,hz⟩:=I.tuple hq;have hlen:=c.length;exact len_tuple pl (by simp only[zZ5]<;>exact zs0 hn hlen hz) ⟨.int ys.length,H,I.tok _,⟨s.toks+1,by rw[zZ5,hlen]⟩,q⟩
theorem oH :xi X (.type "list") (λxs H Q=>∃p ys,xs=[.ref p]/\(SqL X.K H p ys\/SqT X.K H p ys)/\∀l,H l=none->Q (.ref l) (upd H l (.lst ys))):=by
 intro pins s σ H xs us Q I r h;obtain⟨p,ys,rfl,hq,q⟩:=h;obtain⟨u,rfl,g⟩:=vals1 r;cases g;have fin:∀(its:List Value),Vals ys its->ys.length<=sizeLine->∀(h':Heap) (c':Nat),(∀b o',s.heap.get? b=some o'->h'.get? b=some o')->
   h'.get? s.heap.objs.size=some {cls:=.type "list",dict:=none,data:=.seq its.toArray c',slots:=#[]}->EP X pins σ Q (.ref s.heap.objs.size) {s with heap:=h'}:=λits c hz h' c' kp e=>
  ⟨.ref s.heap.objs.size,_,I.laid (t':=s.toks) kp (zY3 _) (show zD X.prog X.w _ h' _ (.lst ys)from⟨hz,its,c',c,e⟩),rfl,q _ (I.hok.fresh (zY3 _))⟩
 rcases hq with hq|hq
 ·obtain⟨its,c,pl,hz⟩:=I.list hq;have hlen:=c.length;obtain⟨o,d,f,n,hd⟩:=pl.isList;exact call_list_seq p (.inl rfl) d f hd (λh' c' kp e=>fin its c hz h' c' kp e) (by simp only[zZ5]<;>exact zY8 (zZ7 hlen.symm) hz)
 ·obtain⟨its,c,pl,hz⟩:=I.tuple hq;have hlen:=c.length;obtain⟨o,d,f,n,hd⟩:=pl;exact call_list_seq p (.inr rfl) d f hd (λh' c' kp e=>fin its c hz h' c' kp e) (by simp only[zZ5]<;>exact zY8 (zZ7 hlen.symm) hz)
def tyV (K:PySem.W.Frag)(T:String)(x:V)(H:Hp):Prop:=match x with
 |.str _=>T="str"
 |.int _=>T="int"
 |.ref p=>(T="list"/\∃xs,SqL K H p xs)\/(T="tuple"/\∃o,K.lookup p=some o/\o.cls=.type "tuple"/\o.dict=none)\/
   (T="dict"/\((∃kvs,H p=some (.dK kvs))\/∃kvs,H p=some (.dT kvs)))\/(T="set"/\∃S n,H p=some (.set S n))
 |_=>False
theorem zD2 {pins:List (Addr×Obj)}{σ:St}{H:Hp}{s:Shared}{T:String}{x:V}{v:Value}(I:Inv X pins σ H s)(r:RelV x v)(ty:tyV X.K T x H):
  s.TypeIs v T/\∀a,v=.ref a->∃ob,s.heap.get? a=some ob/\ob.dict=none:=by
 cases x with
 |str z=>
  obtain⟨t,rfl⟩:=r;cases(show T="str" from ty);exact⟨typeIs_str s z t,λ_ e=>nomatch e⟩
 |int i=>
  obtain⟨t,rfl⟩:=r;cases(show T="int" from ty);exact⟨typeIs_int s i t,λ_ e=>nomatch e⟩
 |ref p=>
  cases r;rcases ty with⟨rfl,xs,hq⟩|⟨rfl,o,hk,f,hd⟩|⟨rfl,hk⟩|⟨rfl,S,n,hk⟩
  ·obtain⟨its,_,pl,_⟩:=I.list hq;refine⟨pl.isList.typeIs,λa e=>?_⟩;cases e;obtain⟨o,n,e,c,hd,_⟩:=pl;exact⟨o,e,hd⟩
  ·refine⟨⟨o,I.kIn p o hk,f⟩,λa e=>?_⟩;cases e;exact⟨o,I.kIn _ o hk,hd⟩
  ·have z:∃o,s.heap.get? p=some o/\o.ExactDict:=by
    rcases hk with⟨kvs,hk⟩|⟨kvs,hk⟩
    ·obtain⟨_,_,_,_,o,_,_,e,ex,_⟩:=I.hok p _ hk;exact⟨o,e,ex⟩
    ·obtain⟨_,_,_,_,o,_,_,e,ex,_⟩:=I.hok p _ hk;exact⟨o,e,ex⟩
   obtain⟨o,e,ex⟩:=z;refine⟨⟨o,e,ex.1⟩,λa d=>?_⟩;cases d;exact⟨o,e,ex.2.1⟩
  ·obtain⟨o,_,_,_,e,ex,_⟩:=I.hok p _ hk;refine⟨⟨o,e,ex.1⟩,λa d=>?_⟩;cases d;exact⟨o,e,ex.2.1⟩
 |_=>exact False.elim ty
def tBM (K:PySem.W.Frag)(T:String)(r:V->List V->Hp->VK->Prop)(to:TE)(t:TA):TE:=λσ H Q=>to σ H λx H1=>tyV K T x H1/\t σ H1 λxs c=>r x xs c Q
variable {o e:Expr}{es:List Expr}{to:TE}{t:TA}{name:Str}{apos cpos:Pos}{T id:String}{r:V->List V->Hp->VK->Prop}
theorem dO (y:PlainAttrs T)(slot:Slot T name id)(k:typeOf (.builtin id)=pure (.type "method_descriptor"))(hm:MtR X id r)(q:PE X o to)(ha:PA X (e::es) t)
  (f:attributeBase o name X.env (eval o X.env)=eval o X.env:=by rfl)
  (i:((backTo cpos (starEach (e::es) X.env)).all (λx=>!x.1)&&(backToKw cpos (keywordEach [] X.env)).all (λx=>x.1.isSome)
   &&decide ((e::es).length+([]:List Keyword).length+(if([]:List Keyword).isEmpty then 0 else 1)<30))=true:=by rfl)
  (d:(apos.endLine == cpos.line)=true:=by rfl) (w:starEach (e::es) X.env=(false,eval e X.env)::starEach es X.env:=by rfl) (c:(backTo cpos (starEach es X.env)).any (·.1)=false:=by rfl):
  PE X (.Call (.Attribute o name apos) (e::es) [] cpos) (tBM X.K T r to t):=by
 intro pins s σ H Q I h;refine wpAny_Call_method_late f i d rfl (thn (q pins s σ H _ I h) λv s1 g=>?_);obtain⟨x,H1,n,m,ty,B⟩:=g;obtain⟨u,D⟩:=zD2 n m ty;refine⟨T,id,y,slot,k,u,D,?_⟩;have l:=ha cpos pins s1 σ H1 _ n B;rw[w]at l ⊢;refine Calls.callWith_builtin (by show(false||(backTo cpos (starEach es X.env)).any (·.1))=false;rw[c]<;>rfl) (Calls.evalArgs_plain ?_);exact thn l λus s2 j=>by obtain⟨vs,z,A,p,C⟩:=j;exact hm pins s2 σ z x vs v us Q A m p C
/- xs.append(e),list.index on a module's tuple .. are MtR facts of 06m -/
end
def MtM (X:Cx)(id:String)(r:V->List V->Hp->VK->Prop):Prop:=
 ∀(pins:List (Addr×Obj)) (s:Shared) (σ:St) (H:Hp) (x:V) (xs:List V) (v:Value) (us:List Value) (Q:VK),Inv X pins σ H s->RelV x v->Vals xs us->r x xs H Q->
  wpAny (model X.prog X.w) X.A (call (.builtin id) (v::us)) (EP X pins σ Q) X.xe s
theorem Vals.one {x:V}{us:List Value}(h:Vals [x] us):∃u,us=[u]/\RelV x u:=by
 cases h with
 |cons r q=>cases q;exact⟨_,rfl,r⟩
theorem Vals.two {x y:V}{us:List Value}(h:Vals [x,y] us):∃u v,us=[u,v]/\RelV x u/\RelV y v:=by
 cases h with
 |cons r q=>
  cases q with
  |cons q z=>cases z;exact⟨_,_,rfl,r,q⟩
section
variable {X:Cx}{pins:List (Addr×Obj)}{σ:St}{H:Hp}{s:Shared}{l b:Addr}{xs ys zs:List V}
theorem Inv.lset {its its':List Value}{n:Nat}{f:Array Value->Array Value}{t':Nat}(I:Inv X pins σ H s)(c:H l=some (.lst xs))
  (e:s.heap.get? l=some {cls:=.type "list",data:=.seq its.toArray n}) (hf:f its.toArray=its'.toArray) (a:Vals ys its') (hz:ys.length<=sizeLine):
  Inv X pins σ (upd H l (.lst ys)) {s with heap:=s.heap.update l (Obj.mapSeq f),toks:=t'}:=by
 have q:=PySem.IsL.update e f;rw[hf]at q;refine I.write (x:=l) (e:=l) (by rw[c];exact trivial) (.inl rfl) (λg u hb d=>(zZ2 s.heap (Obj.mapSeq f) (z23 hb)).trans d) ⟨_,q⟩ ?_;exact⟨hz,its',_,a,q⟩
theorem Inv.lnew {its:List Value}{t':Nat}(I:Inv X pins σ H s)(a:Vals ys its)(hz:ys.length<=sizeLine):
  Inv X pins σ (upd H s.heap.objs.size (.lst ys)) {s with heap:=s.heap.push {cls:=.type "list",data:=.seq its.toArray},toks:=t'}:=
 I.laid (λ_ _ q=>zX7 _ q) (zY3 _) ⟨hz,its,0,a,zZ0 _ rfl⟩
theorem Inv.fresh (I:Inv X pins σ H s):H s.heap.objs.size=none:=I.hok.fresh (zY3 _)
theorem Inv.lstM (I:Inv X pins σ H s)(a:H l=some (.lst xs)):xs.length<=sizeLine/\∃(its:List Value) (n:Nat),Vals xs its/\xs.length=its.length/\s.heap.get? l=some {cls:=.type "list",data:=.seq its.toArray n}:=by
 obtain⟨z,its,n,r,e⟩:=I.hok l _ a;exact⟨z,its,n,r,r.length,e⟩
theorem zb9 {n:Nat}(h:n<=sizeLine):Builtin.List.listTooLong n=false:=by
 unfold Builtin.List.listTooLong;exact z06 (Nat.not_lt_of_le h)
end
section
variable {X:Cx}
def zp1 :V->List V->Hp->VK->Prop:=λx vs H Q=>∃l xs y,x=.ref l/\vs=[y]/\H l=some (.lst xs)/\xs.length<sizeLine/\Q .non (upd H l (.lst (xs++[y])))
theorem qA :MtM X "list.append" zp1:=by
 intro pins s σ H x vs v us Q I f c h;obtain⟨l,xs,y,rfl,rfl,a,hz,q⟩:=h;cases f;obtain⟨u,rfl,b⟩:=c.one;obtain⟨z,its,n,r,d,e⟩:=I.lstM a;refine call_meets F.slot_list_append ⟨_,e,rfl⟩ F.entry_list_append (F.args_list_append_2 _ _) (PySem.list_append l its.toArray n u (by rw[zZ5];exact z30 (zZ9 (zZ7 d.symm) hz))) ⟨e,?_⟩;refine⟨.non,_,I.lset (its':=its++[u]) a e (by simp) (r.append (.cons b .nil)) ?_,rfl,q⟩;rw[z04,List.length_singleton];exact hz
def zj9 :V->List V->Hp->VK->Prop:=λx vs H Q=>∃l b xs zs,x=.ref l/\vs=[.ref b]/\H l=some (.lst xs)/\H b=some (.lst zs)/\xs.length+zs.length<=sizeLine/\Q .non (upd H l (.lst (xs++zs)))
theorem fq :MtM X "list.extend" zj9:=by
 intro pins s σ H x vs v us Q I p k h;obtain⟨l,b,xs,zs,rfl,rfl,g,t,hz,q⟩:=h;cases p;obtain⟨u,rfl,j⟩:=k.one;cases j;obtain⟨z,its,n,r,f,e⟩:=I.lstM g;obtain⟨w,a,m,i,d,o⟩:=I.lstM t;have hsz:its.toArray.size+a.toArray.size<=sizeLine:=by rw[zZ5,zZ5];exact zs8 hz f d
 have c:¬(!its.toArray.isEmpty&&Builtin.List.listTooLong (its.toArray.size+a.toArray.size))=true:=by
  rw[zb9 hsz,Bool.and_false];exact z03
 refine call_meets F.slot_list_extend ⟨_,e,rfl⟩ F.entry_list_extend (F.args_list_extend_2 _ _)
  (AutoSeq1.list_extend_list_list_0 l its.toArray n b a.toArray m c (by rw[zZ5];exact zY8 (zZ7 f.symm) z) (zY8 hsz (zZ4 _ _))) ⟨e,o,?_⟩
 refine⟨.non,_,I.lset (its':=its++a) g e (by simp) (r.append i) ?_,rfl,q⟩;rw[z04];exact hz
def zV4 :R2:=λx y H Q=>∃l b xs zs,x=.ref l/\y=.ref b/\H l=some (.lst xs)/\H b=some (.lst zs)/\xs.length+zs.length<=sizeLine/\∀p,H p=none->Q (.ref p) (upd H p (.lst (xs++zs)))
theorem ze9 :OpR X (binaryOp .Add) zV4:=by
 intro pins s σ H x y v u Q I o f h;obtain⟨l,b,xs,zs,rfl,rfl,j,g,hz,q⟩:=h;cases o;cases f;obtain⟨z,its,n,r,k,e⟩:=I.lstM j;obtain⟨t,a,p,d,c,m⟩:=I.lstM g;refine PySem.P.add_list e m ?_ (by rw[zZ5,zZ5];exact zs8 hz k c);have i:its.toArray++a.toArray=(its++a).toArray:=by simp
 rw[i];exact⟨.ref _,_,I.lnew (t':=s.toks) (r.append d) (by rw[z04];exact hz),rfl,q _ I.fresh⟩
end
section
variable {prog:Program}{w:World}{A:Around}{E:Value->Shared->Prop}{s:Shared}
end
section
variable {X:Cx}
end
end L2
namespace Att
open PySem PySem.W PySem.Calls PyProof.Rows
theorem tR {P:Params}{h:Heap}:∀(ns:List Int) (vs:List Value),WellAll P h vs (ns.map WData.int)->IntsAre vs ns:=by
 intro ns
 induction ns with
 |nil=>
  intro vs w;rw[List.map_nil]at w;cases w;exact .nil
 |cons n ns c=>
  intro vs w;rw[z02]at w;cases w with
  |cons a b=>
   cases a;exact .cons _ _ (c _ b)
theorem hJ {l:OpenLaw}{n:Nat}(hn:l.most=some n){P:Params}{h:Heap}{args:List WData}{vals:List Value}
  (b:l.row.toRowW.claim.pre args=true) (i:WellAll P h vals args):
  ∃a vs ns,vals=[Value.ref a]/\args=[WData.list (ns.map WData.int)]/\h.get? a=some {cls:=.type "list",data:=.seq vs.toArray}/\IntsAre vs ns/\ns.length<=n:=by
 have g:WShape.hasAll [] args [.list .int]=true:=(pre_splitW b).1;have j:l.pre.holds [] {args:=args}=true:=(pre_splitW b).2;obtain⟨d,r,rfl,m,u⟩:=hasAllW_cons g;obtain rfl:=hasAllW_nil u;obtain⟨xs,rfl,s⟩:=hasW_list m;obtain⟨ns,rfl⟩:=items_int s;have hlen:ns.length<=n:=by
  unfold OpenLaw.pre at j;have e:(WTm.not (.lt (.lit (.int (n:Int))) (.len (.arg 0)))).holds [] {args:=[.list (ns.map .int)]}=true:=by
   have e:=(holds_andW j).1;rw[hn]at e;exact e
  have f:=condW_of e (w_not (w_lt w_lit (w_len_list (w_arg rfl))));rw[zX8]at f;refine z72 λq=>?_;have o:(n:Int)<((ns.length:Nat):Int):=(Int.ofNat_lt.2 q)
  first
   |(rw[z26 o]at f;exact absurd f (by decide))
   |(simp at f;omega)
 cases i with
 |cons p t=>
  cases t;cases p with
  |list k c=>exact⟨_,_,ns,rfl,rfl,k,tR ns _ c,hlen⟩
theorem gQ (l:OpenLaw)(args:List WData):l.row.toRowW.claim.post args (.bool true) args=true:=
 postW_of (r:=l.row.toRowW) (X:=(true == true))
  (show WShape.has [] (.bool true) .bool=true by first|rfl|decide|simp[WShape.has,WShape.arms,WShape.armsAll])
  (show(WTm.eq .res (.lit (.bool true))).value [] {args:=args,res:=some (.bool true),after:=args}=some (.bool (true == true))from w_eq_bool (w_res rfl) w_lit) rfl
theorem attach_call {l:OpenLaw}{n:Nat}{q:Program}{loose:List Str}{m:(Str->Option Value)->Heap->Prop}{p:World->Heap->Prop}{d:DefRec}
  (hn:l.most=some n) (hdf:d.params.defaults=[])
  (call:∀(w:World) (s₀ b:Shared) (mg mb:Str->Option Value) (g:Addr) (o:Obj) (pm cd doc:Value) (a:Addr) (vs:List Value) (ns:List Int),
   Ground q loose [] m w s₀ mg mb b.heap->p w b.heap->
   b.heap.get? g=some o->o.data=.func (docDef d.name d.params d.body d.scope pm cd doc)->b.heap.CodeRec cd d.name->mg d.name=some (.ref g)->
   b.heap.get? a=some {cls:=.type "list",data:=.seq vs.toArray}->IntsAre vs ns->ns.length<=n->b.gens=#[]->
   codeAny (model l.prog w) callerA (.call (.ref g) ⟨[.ref a],[]⟩) (λr s'=>r=.ok (.ret (.bool true))/\OldK b.heap s'.heap/\s'.os=b.os/\AllBare s'.gens) b):
  WalkO q loose m p l.row.toRowW d [] (λf vs=>PySem.call f vs):=by
 intro w s₀ b mg mb G Y g o pm cd doc dV kV s hd j hD h hg args vals as e k y i t;obtain rfl:dV=.none:=Dflts.none hD hdf;obtain rfl:kV=.none:=Dflts.noKw hD;obtain⟨a,vs,ns,rfl,rfl,c,hints,hlen⟩:=hJ hn e i;refine enter_call (yb5 (call w s₀ b mg mb g o pm cd doc a vs ns G Y s (fd_plain hd) j h c hints hlen hg) λr s' hq=>?_);obtain⟨rfl,v,u,x⟩:=hq;exact⟨.inl ⟨.bool true,.bool true,[],rfl,λ_=>rfl,.bool true,gQ l _,λ_=>⟨List.Pairwise.nil,λ_ hm=>(nomatch hm)⟩⟩,v,u,x⟩
section
variable {prog:Program}{w:World}{A:Around}{E:Value->Shared->Prop}{s:Shared}{K:Frag}
end
end Att
namespace L2
open PySem PySem.Spec PyProof.Rows
theorem fZ {vs:List Value}{ns:List Int}(h:IntsAre vs ns):Vals (ns.map V.int) vs:=by
 induction h with
 |nil=>exact .nil
 |cons n t _ a=>exact .cons ⟨t,rfl⟩ a
def inClass (s:Stmt)(j:Nat):Stmt:=match s with
 |.ClassDef _ _ _ body _ _ _ _ _ _ _=>body.getD j (.Pass ⟨0,0,0,0⟩)
 |_=>.Pass ⟨0,0,0,0⟩
def zL (s:Stmt):Arguments:=match s with
 |.FunctionDef _ a _ _ _ _ _ _ _ _=>a
 |_=>{posonlyargs:=[],args:=[],vararg:=none,kwonlyargs:=[],kw_defaults:=[],kwarg:=none,defaults:=[]}
def zr (s:Stmt):List Stmt:=match s with
 |.FunctionDef _ _ b _ _ _ _ _ _ _=>b
 |_=>[]
def zd (s:Stmt):Scope:=match s with
 |.FunctionDef _ _ _ _ _ _ sc _ _ _=>sc
 |_=>{kind:=.function,names:=[],isGenerator:=false,isCoroutine:=false}
abbrev CX0 :CXT:=λ_ _ _ _ _ _=>False
abbrev E0 :XK:=λ_ _ _=>False
theorem lg {X:Cx}:Passes CX0 X E0:=λ_ _ _ _ _ _ _ h=>h.elim
structure Fun (K:PySem.W.Frag)(x qual:Str)(st:Stmt)(f:Addr)(fd:FuncData):Prop where
 ex:∃(oc:Value) (od:Option Addr) (kV doc pm:Value) (an:Option Addr) (cdv ct:Value) (osl:Array (Option Value)),
  fd=PySem.W.fnOf x qual (zL st) (zr st) (zd st) .none kV doc pm an cdv ct/\K.lookup f=some ⟨oc,od,.func fd,osl⟩/\PySem.W.codeIn K cdv qual=true
 kp:PySem.W.keepIn K (.ref f)=true
section
variable {P:Program}{w:World}{K:PySem.W.Frag}{mg:Str->Option Value}{base:Heap}
theorem Fun.ok {x qual:Str}{st:Stmt}{f:Addr}{fd:FuncData}{N ps:List Str}{k:Nat}{sp:Sp}(F:Fun K x qual st f fd)(S:zI N ps (zd st))(len:∀vs H Q E,sp vs H Q E->vs.length=ps.length)
  (a:∀(cdv:Value) (A:Around) (outer:List Env) (s:Shared) (H:Hp) (vs:List V) (Q:VK) (E:XK),zG k (A.deeper (envOfC qual (zd st) s.heap.objs.size f cdv))->sp vs H Q E->
   ∃t,PSs (xr CX0 P w K mg base N qual (zd st) f cdv A outer s H E).nox (zr st) t/\t {nx:=λ_ H'=>Q .non H',rt:=Q} (start N vs) H):yv P w K mg base CX0 (k+1) f fd ps sp:=by
 obtain⟨oc,od,kV,doc,pm,an,cdv,ct,osl,rfl,d,c⟩:=F.ex;refine ia d c S len λA outer s H vs Q E hr b=>?_;obtain⟨t,h,q⟩:=a cdv A outer s H vs Q E hr b;exact⟨t,h.nox,q⟩
theorem Fun.binds {x qual:Str}{st:Stmt}{f:Addr}{fd:FuncData}{ps:List Str}(F:Fun K x qual st f fd)
  (h:∀(kV doc pm:Value) (an:Option Addr) (cdv ct:Value) (us:List Value),us.length=ps.length->bindArgs (PySem.W.fnOf x qual (zL st) (zr st) (zd st) .none kV doc pm an cdv ct) ⟨us,[]⟩=pure (ps.zip us)):Binds K fd ps []:=by
 obtain⟨oc,od,kV,doc,pm,an,cdv,ct,osl,rfl,b,a⟩:=F.ex;exact .all (h kV doc pm an cdv ct)
theorem oy {x qual:Str}{st:Stmt}{f:Addr}{oc:Value}{od an:Option Addr}{osl:Array (Option Value)}{kV doc pm cdv ct:Value}(l:K.lookup f=some ⟨oc,od,.func (PySem.W.fnOf x qual (zL st) (zr st) (zd st) .none kV doc pm an cdv ct),osl⟩)
  (c:PySem.W.codeIn K cdv qual=true) (k:PySem.W.keepIn K (.ref f)=true):Fun K x qual st f (PySem.W.fnOf x qual (zL st) (zr st) (zd st) .none kV doc pm an cdv ct):=⟨⟨oc,od,kV,doc,pm,an,cdv,ct,osl,rfl,l,c⟩,k⟩
end
theorem yb {n:Nat}(h:n<=1000):n<sizeLine:=zZ9 h (by decide)
section
variable {X:Cx}
theorem pv (i:Nat){x:Str}{pos:Pos}(c:X.N[i]?=some x:=by rfl)(b:Vis X.env.scope x:=by first|exact Or.inl rfl|exact Or.inr (Or.inl rfl)|exact Or.inr (Or.inr rfl))(hd:(x == ("__debug__":Str))=false:=by decide)
  (a:(x == ("__classdict__":Str))=false:=by decide):PE X (.Name x pos) (zB3 i):=yB c b hd a
end
theorem oj {A B:Prop}(h:B):if false=true then A else B:=by
 rw[if_neg z03];exact h
theorem pR {A B:Prop}(h:A):if true=true then A else B:=by
 rw[if_pos rfl];exact h
theorem zW7 {c A B:Prop}[Decidable c](b:c->A)(a:¬c->B):if c then A else B:=by
 by_cases h:c
 ·rw[if_pos h];exact b h
 ·rw[if_neg h];exact a h
def zu (H H':Hp):Prop:=∀b o,H b=some o->H' b=some o
theorem zu.refl (H:Hp):zu H H:=λ_ _ h=>h
theorem zu.trans {H H1 d:Hp}(a:zu H H1)(b:zu H1 d):zu H d:=λc o h=>b c o (a c o h)
def ua (cells:List (Str×Addr)):List (Str×NameKind)->List (Str×Addr)->List (Str×Addr)
 |[],acc=>acc
 |(n,k)::r,acc=>ua cells r (if k=.free then(n,(cells.lookup n).getD 0)::acc else acc)
theorem vN {env:Env}{scope:Scope}(h:∀y∈scope.names,y.2=.free->∃c,env.cells.lookup y.1=some c):
  closureFor scope env=pure (ua env.cells scope.names []):=by
 have key:∀(ns:List (Str×NameKind)) (acc:List (Str×Addr)),(∀y∈ns,y.2=.free->∃c,env.cells.lookup y.1=some c)->
   (forIn ns acc λ(x:Str×NameKind) (r:List (Str×Addr))=>(if(x.2 == NameKind.free)=true then(do let a <-cellOf env x.1;pure (ForInStep.yield ((x.1,a)::r)))else pure (ForInStep.yield r):Sem (ForInStep (List (Str×Addr)))))=pure (ua env.cells ns acc):=by
  intro ns
  induction ns with
  |nil=>intro acc _;rfl
  |cons y r e=>
   intro acc hy;obtain⟨n,k⟩:=y;rw[yd5];have hr:∀z∈r,z.2=.free->∃c,env.cells.lookup z.1=some c:=λz hz=>hy z (zY5 _ hz);by_cases hk:k=.free
   ·subst hk;obtain⟨c,d⟩:=hy (n,.free) zY9 rfl;have e1:cellOf env n=pure c:=by
     unfold cellOf;rw[d]
    have b:((NameKind.free == NameKind.free)=true):=rfl;simp only[b,ya8,e1,pure_bind];rw[e _ hr];show _=pure (ua env.cells r (if NameKind.free=NameKind.free then(n,(env.cells.lookup n).getD 0)::acc else acc));rw[if_pos rfl,d];rfl
   ·have b:(k == NameKind.free)=false:=by simpa using hk
    simp only[b,z34,z87,pure_bind];rw[e _ hr];show _=pure (ua env.cells r (if k=NameKind.free then(n,(env.cells.lookup n).getD 0)::acc else acc));rw[if_neg hk]
 have q:=key scope.names [] h;unfold closureFor;simp only[]at q ⊢;rw[show(forIn scope.names ([]:List (Str×Addr)) λ(x:Str×NameKind) (r:List (Str×Addr))=>_)=_ from q];rfl
theorem lj {cells:List (Str×Addr)}:∀(ns:List (Str×NameKind)) (acc:List (Str×Addr)),(∀y∈ns,y.2=.free->∃c,cells.lookup y.1=some c)->
  ∀x c,(x,c)∈ua cells ns acc->(x,c)∈acc\/((x,NameKind.free)∈ns/\cells.lookup x=some c)
 |[],acc,_,x,c,h=>.inl h
 |(n,k)::r,acc,hy,x,c,h=>by
  have hr:∀z∈r,z.2=.free->∃c,cells.lookup z.1=some c:=λz hz=>hy z (zY5 _ hz);have h':(x,c)∈ua cells r (if k=.free then(n,(cells.lookup n).getD 0)::acc else acc):=h;rcases lj r _ hr x c h' with q|⟨d,f⟩
  ·by_cases hk:k=.free
   ·rw[if_pos hk]at q;rcases zY2.mp q with e|q
    ·obtain⟨c',g⟩:=hy (n,k) zY9 hk;have e1:x=n:=congrArg Prod.fst e;have b:c=(cells.lookup n).getD 0:=congrArg Prod.snd e;have a:cells.lookup n=some c':=g;rw[a]at b;have i:c=c':=b;subst e1 i hk;exact .inr ⟨zY9,a⟩
    ·exact .inl q
   ·rw[if_neg hk]at q;exact .inl q
  ·exact .inr ⟨zY5 _ d,f⟩
theorem mh {cells:List (Str×Addr)}:∀(ns:List (Str×NameKind)) (acc:List (Str×Addr)) (p:Str×Addr),p∈acc->p∈ua cells ns acc
 |[],_,_,h=>h
 |(n,k)::r,acc,p,h=>by
  show p∈ua cells r (if k=.free then(n,(cells.lookup n).getD 0)::acc else acc);refine mh r _ p ?_;split
  ·exact zY5 _ h
  ·exact h
theorem mO {cells:List (Str×Addr)}:∀(ns:List (Str×NameKind)) (acc:List (Str×Addr)) (x:Str),(x,NameKind.free)∈ns->∃c,(x,c)∈ua cells ns acc
 |[],_,_,h=>by simp at h
 |(n,k)::r,acc,x,h=>by
  show ∃c,(x,c)∈ua cells r (if k=.free then(n,(cells.lookup n).getD 0)::acc else acc);rcases zY2.mp h with e|h
  ·have e1:x=n:=congrArg Prod.fst e;have a:NameKind.free=k:=congrArg Prod.snd e;subst e1 a;rw[if_pos rfl];exact⟨_,mh r _ _ zY9⟩
  ·exact mO r _ x h
theorem mem_lookup {x:Str}{c:Addr}:∀{l:List (Str×Addr)},(x,c)∈l->∃d,l.lookup x=some d
 |[],h=>by simp at h
 |(n,a)::r,h=>by
  rw[z42];cases e:x == n with
  |true=>exact⟨a,rfl⟩
  |false=>
   rcases zY2.mp h with q|q
   ·have e1:x=n:=congrArg Prod.fst q;rw[e1]at e;simp at e
   ·exact mem_lookup q
structure zP (XN:List Str)(xs:Scope)(N:List Str)(imp:List (Option Nat))(scope:Scope):Prop where
 kind:scope.kind=.function
 nd:N.Nodup
 nocell:∀y∈scope.names,y.2≠.cell
 locs:∀y∈scope.names,y.2=.local->scope.names.lookup y.1=some .local
 frees:∀y∈scope.names,y.2=.free->xs.names.lookup y.1=some .cell\/xs.names.lookup y.1=some .free
 len:imp.length=N.length
 impsB:((imp.zip N).all λp=>match p.1 with|none=>true|some j=>XN[j]? == some p.2&&scope.names.lookup p.2 == some .free)=true
theorem zP.imps {XN N:List Str}{xs scope:Scope}{imp:List (Option Nat)}(S:zP XN xs N imp scope):∀(i j:Nat),imp[i]?=some (some j)->∃x,N[i]?=some x/\XN[j]?=some x/\scope.names.lookup x=some .free:=by
 intro i j h;have hi:i<imp.length:=(zY0.mp h).1;have hn:i<N.length:=by rw[<-S.len];exact hi
 have b:N[i]?=some N[i]:=zY1 hn;have hm:(some j,N[i])∈imp.zip N:=by
  have hz:(imp.zip N)[i]?=some (some j,N[i]):=by
   rw[List.getElem?_zip_eq_some];exact⟨h,b⟩
  exact z24 hz
 have q:=ya5.mp S.impsB _ hm;have a:(XN[j]? == some N[i]&&scope.names.lookup N[i]==some .free)=true:=q;rw[z07]at a;exact⟨N[i],b,eq_of_beq a.1,eq_of_beq a.2⟩
def wy (imp:List (Option Nat))(σ:St):St:=imp.map λo=>o.bind λj=>(σ[j]?).bind id
theorem fH {imp:List (Option Nat)}{σ:St}{i:Nat}{v:V}(h:(wy imp σ)[i]?=some (some v)):∃j,imp[i]?=some (some j)/\σ[j]?=some (some v):=by
 unfold wy at h;rw[zY7]at h;cases e:imp[i]? with
 |none=>rw[e]at h;cases h
 |some o=>
  rw[e]at h;have h':(o.bind λj=>(σ[j]?).bind id)=some v:=z09 h;cases o with
  |none=>cases h'
  |some j=>
   have a:(σ[j]?).bind id=some v:=h';cases e2:σ[j]? with
   |none=>rw[e2]at a;cases a
   |some w=>
    rw[e2]at a;have b:w=some v:=a;exact⟨j,rfl,by rw[e2,b]⟩
def Cx.comp (X:Cx)(N:List Str)(scope:Scope)(C:Addr)(s2:Shared)(a:Hp)(fp:List Addr):Cx where
 prog:=X.prog
 w:=X.w
 K:=X.K
 mg:=X.mg
 base:=X.base
 A:=X.A
 N:=N
 s₀:=s2
 H₀:=a
 env:=compEnvC scope (ua X.env.cells scope.names []) C X.env
 outer:=X.stack
 stack:=X.stack
 ex:=fp
 fn:=λ_=>false
 calm:=X.calm
 pn:=[]
 xe:=λ_ _=>False
theorem ug {env:Env}:∀{names:List (Str×NameKind)}{x:Str},
  (names.map λ(n,k)=>if(k == NameKind.free&&env.scope.kind == .function&&env.kindOf n == some .cell)then(n,NameKind.cell)else(n,k)).lookup x=some .cell\/
  (names.map λ(n,k)=>if(k == NameKind.free&&env.scope.kind == .function&&env.kindOf n == some .cell)then(n,NameKind.cell)else(n,k)).lookup x=some .free->
  (∀y∈names,y.2≠.cell)->(x,NameKind.free)∈names
 |[],x,h,_=>by simp at h
 |(n,k)::r,x,h,hc=>by
  have f:=@ug env r x;rw[z02]at h;dsimp only at h;by_cases d:x=n
  ·subst d;by_cases hk:k=.free
   ·subst hk;exact zY9
   ·have a:(k == NameKind.free)=false:=by simpa using hk
    simp only[a,yb4,z34,z87,z42,beq_self_eq_true,ya8]at h;rcases h with h|h
    ·have e:k=.cell:=z09 h;exact absurd e (hc (x,k) zY9)
    ·have e:k=.free:=z09 h;exact absurd e hk
  ·have c:(x == n)=false:=by simpa using d
   have step:∀(b:Bool) (l:List (Str×NameKind)),List.lookup x ((if b=true then(n,NameKind.cell)else(n,k))::l)=l.lookup x:=λb l=>by
    cases b<;>simp[z42,c]
   rw[step]at h;exact zY5 _ (f h λy hy=>hc y (zY5 _ hy))
theorem tJ {env:Env}:∀{names:List (Str×NameKind)}{x:Str},names.lookup x=some .free->
  (names.map λ(n,k)=>if(k == NameKind.free&&env.scope.kind == .function&&env.kindOf n == some .cell)then(n,NameKind.cell)else(n,k)).lookup x=some .cell\/
  (names.map λ(n,k)=>if(k == NameKind.free&&env.scope.kind == .function&&env.kindOf n == some .cell)then(n,NameKind.cell)else(n,k)).lookup x=some .free
 |[],x,h=>by simp at h
 |(n,k)::r,x,h=>by
  have a:=@tJ env r x;rw[z02];dsimp only;rw[z42]at h;cases hx:x == n with
  |true=>
   rw[hx]at h;have e:k=.free:=z09 h;subst e;by_cases hb:(NameKind.free == NameKind.free&&env.scope.kind == .function&&env.kindOf n == some .cell)=true
   ·left;rw[if_pos hb];simp[z42,hx]
   ·right;rw[if_neg hb];simp[z42,hx]
  |false=>
   rw[hx]at h;have step:∀(b:Bool) (l:List (Str×NameKind)),List.lookup x ((if b=true then(n,NameKind.cell)else(n,k))::l)=l.lookup x:=λb l=>by
    cases b<;>simp[z42,hx]
   rw[step];exact a h
section
variable {X:Cx}{pins:List (Addr×Obj)}{σ:St}{H2 H':Hp}{s2 s':Shared}{fp:List Addr}{N:List Str}{imp:List (Option Nat)}{scope:Scope}{C acc:Addr}
theorem vY (I:Inv X pins σ H2 s2)(S:zP X.N X.env.scope N imp scope):∀y∈scope.names,y.2=.free->∃c,X.env.cells.lookup y.1=some c:=λy hy hk=>I.ok.has y.1 (S.frees y hy hk)
theorem xu (I:Inv X pins σ H2 s2)(S:zP X.N X.env.scope N imp scope){x:Str}{c:Addr}(h:(ua X.env.cells scope.names []).lookup x=some c):(x,NameKind.free)∈scope.names/\X.env.cells.lookup x=some c:=by
 rcases lj scope.names [] (vY I S) x c (z48 h)with q|q
 ·exact absurd q (by simp)
 ·exact q
theorem ux (I:Inv X pins σ H2 s2)(S:zP X.N X.env.scope N imp scope){x:Str}(h:(x,NameKind.free)∈scope.names):∃c,(ua X.env.cells scope.names []).lookup x=some c:=by
 obtain⟨c,a⟩:=mO (cells:=X.env.cells) scope.names [] x h;exact mem_lookup a
theorem bB {f:Heap}{tk:Nat}{m:Str->Option Value}{K:Nat}(I:Inv X pins σ H2 s2)(S:zP X.N X.env.scope N imp scope)(hf:∀b∈fp,yW X pins H2 b)(M:∀b∈fp,∃o,s2.heap.get? b=some o)
  (a:acc=s2.heap.objs.size) (s:C=s2.heap.objs.size+1) (old:∀b o,s2.heap.get? b=some o->f.get? b=some o) (hn:f.Ns C m)
  (R:f.get? acc=some {cls:=.type "list",data:=.seq ([]:List Value).toArray K}):
  Inv (X.comp N scope C s2 H2 fp) [] (wy imp σ) (upd H2 acc (.lst [])) {s2 with heap:=f,toks:=tk}:=by
 have W:H2 acc=none:=I.hok.fresh (by rw[a];exact zY3 _);have E:C≠acc:=by rw[s,a];exact Nat.succ_ne_self _
 have F:∀x c,X.env.cells.lookup x=some c->c<s2.heap.objs.size:=λx c e=>by
  obtain⟨v,q⟩:=I.cell x c e;exact q.lt
 refine⟨⟨I.ok.mod,S.kind,I.ok.glob,I.ok.blt,?above,?inj,?has,?cab,I.ok.hd,I.ok.frames,.inl rfl,?exf,λb o e=>I.bs b o e,zY8 I.ok.bsz I.sz,?noex,?exfs,I.stack,I.stkFree⟩,
  rfl,I.bare,Un.laid old (by rw[a];exact zY3 _) W,⟨m,hn,?loc⟩,?cell,?free,?freeC,λp O=>absurd (show p∈([]:List (Addr×Obj))from O) (by simp),I.hok.laid old (by rw[a];exact zY3 _) ⟨zZ6 _,[],K,.nil,R⟩,?len⟩
 case above=>show s2.heap.objs.size<=C;rw[s];exact z82 _
 case inj=>exact λx y c f Y=>I.ok.inj x y c (xu I S f).2 (xu I S Y).2
 case has=>exact λx P=>ux I S (ug (env:=X.env) P S.nocell)
 case cab=>exact λx c h _=>absurd h (by show ¬(false=true);simp)
 case exf=>
  intro b hb;obtain⟨o,A⟩:=M b hb;refine⟨?_,λx c e=>(hf b hb).2.2.2.2.1 x c (xu I S e).2⟩;show b≠C;rw[s];exact z01 (yb3 (zY6 A))
 case noex=>
  intro b o e hb;rcases(hf b hb).2.2.2.1 with z|z
  ·exact I.ok.noex b o e z
  ·exact absurd (zX9 (zY6 e) (zY8 I.ok.bsz z)) (z36 _)
 case exfs=>
  intro b hb hz;rcases zY2.mp (I.stkSub b hz)with e|e
  ·exact(hf b hb).2.1 e
  ·exact(hf b hb).2.2.1 e
 case loc=>
  intro i x v e1 T e3;obtain⟨j,U,V⟩:=fH T;obtain⟨y,n1,Q,w⟩:=S.imps i j U;have H:(X.comp N scope C s2 H2 fp).N[i]?=some y:=n1;rw[H]at e1;have B:y=x:=z09 e1;subst B;have n:=S.frees (y,.free) (z48 w) rfl;obtain⟨mX,Z,D⟩:=I.loc;obtain⟨u,r,l⟩:=D j y v Q V (.inr n);refine⟨u,r,?_⟩;rcases l with⟨k,_⟩|⟨k,c,e,z⟩
  ·have J:X.env.scope.names.lookup y=some .local:=k;rcases n with z|z
   ·have g:X.env.scope.names.lookup y=some .cell:=z;rw[J]at g;cases g
   ·have g:X.env.scope.names.lookup y=some .free:=z;rw[J]at g;cases g
  ·obtain⟨d,hd⟩:=ux I S (z48 w);have hd2:=(xu I S hd).2;rw[e]at hd2;have t:c=d:=z09 hd2;subst t;exact .inr ⟨tJ (env:=X.env) w,c,hd,z.keeps old⟩
 case cell=>
  intro x c e;obtain⟨v,q⟩:=I.cell x c (xu I S e).2;exact⟨v,q.keeps old⟩
 case free=>
  show upd H2 acc _ C=none;rw[zc E];exact I.hok.fresh (by rw[s];exact z82 _)
 case freeC=>
  intro x c e;have L:=(xu I S e).2;have G:=F x c L;show upd H2 acc _ c=none;rw[zc (by rw[a];exact z01 G)];exact I.freeC x c L
 case len=>
  show(wy imp σ).length=N.length;unfold wy;rw[zX8];exact S.len
theorem gg {pl:List (Addr×Obj)}{a:St}(I:Inv X pins σ H2 s2)(hf:∀b∈fp,yW X pins H2 b)(J:Inv (X.comp N scope C s2 H2 fp) pl a H' s'):Inv X pins σ H' s':=
 I.call' (ch:=fp) J.os J.base J.hok J.bare λb hb=>⟨(hf b hb).2.2.2.1,(hf b hb).2.1,(hf b hb).2.2.2.2.1,(hf b hb).2.2.2.2.2⟩
end
section
variable {prog:Program}{w:World}{A:Around}{R:Result->Shared->Prop}{s:Shared}
theorem og {elt target iter:Expr}{ifs:List Expr}{scope:Scope}{pos:Pos}{it acc:Value}{env:Env}(I:Nat->Shared->Prop)
  (turn:∀n s,I n s->wpAny (model prog w) A (pyNext it) (λr s1=>match r with
   |none=>R (.ok .next) s1
   |some v=>wpAny (model prog w) A (letOwnedTupleGo target it v) (λ_ s2=>wpAny (model prog w) A (assign target env v) (λ_ s3=>
     wpAny (model prog w) A (forIn ifs true λc r=>if r=true then do let ok <-isTrue c env (eval c env);pure (ForInStep.yield ok)else pure (ForInStep.yield r)) (λok s4=>
      if ok=true then wpAny (model prog w) A (eval elt env) (λx s5=>
       wpAny (model prog w) A (call (.builtin "list.append") [acc,x]) (λ_ d=>∃m,m<n/\I m d) (λ_ _=>False) s5) (λ_ _=>False) s4
      else ∃m,m<n/\I m s4) (λ_ _=>False) s3) (λ_ _=>False) s2) (λ_ _=>False) s1) (λ_ _=>False) s)
  (n:Nat) (h:I n s):codeAny (model prog w) A (.compLoop (.ListComp elt [⟨target,iter,ifs,0⟩] scope pos) 0 it acc env) R s:=by
 refine codeAny_loop rfl I (λn s g=>?_) n h;show wpAny _ A ((compTurn (.ListComp elt [⟨target,iter,ifs,0⟩] scope pos) 0 it acc env).onRaise (λx=>do noteFrame x env;theTreesLotGoes x)) _ _ s;refine wpAny_noted ?_;rw[compTurn_list];refine zX6 (yc9 (zX6 (z31 (turn n s g) (λr s1 a=>?_) λ_ _ h'=>False.elim h')));cases r with
 |none=>exact zY4 a
 |some v=>
  refine zX6 (z31 a (λ_ s2 i=>?_) λ_ _ h'=>False.elim h');refine zX6 (z31 i (λ_ s3 f=>zX6 (z31 f (λok s4 b=>?_) λ_ _ h'=>False.elim h')) λ_ _ h'=>False.elim h');cases ok with
  |false=>exact zY4 ⟨rfl,b⟩
  |true=>
   exact zX6 (zX6 (z31 b (λx s5 j=>zX6 (z31 j (λ_ d e=>zY4 (zY4 ⟨rfl,e⟩)) λ_ _ h'=>False.elim h')) λ_ _ h'=>False.elim h'))
end
def vw (Y:Cx)(ifs:List Expr)(t:TT):Prop:=
 ∀(pins:List (Addr×Obj)) (s:Shared) (σ:St) (H:Hp) (Q:Bool->Hp->Prop),Inv Y pins σ H s->t σ H Q->
  wpAny (model Y.prog Y.w) Y.A (forIn ifs true λc r=>if r=true then do let ok <-isTrue c Y.env (eval c Y.env);pure (ForInStep.yield ok)else pure (ForInStep.yield r)) (TP Y pins σ Q) Y.xe s
def zX3 :TT:=λ_ H Q=>Q true H
theorem zj5 {Y:Cx}:vw Y [] zX3:=λ_ _ _ H _ I h=>wpAny_tests_nil ⟨H,I,h⟩
theorem zh9 {Y:Cx}{c:Expr}{t:TT}(h:PT Y c t):vw Y [c] t:=λpins s σ H Q I q=>wpAny_tests_one (h pins s σ H Q I q)
def iJ (J:It)(acc:Addr)(g:TG)(tt:TT)(n:TE)(e:St)(H0:Hp)(Q:VK):Prop:=
 ∃W:Nat->Nat->List V->St->Hp->Prop,(∃m,W 0 m [] e H0)/\∀i m ys k b,W i m ys k b->
  (J.stop i b/\Q (.ref acc) b)\/(J.go i b/\∃N:List V->St->Hp->Prop,(∀d a H',N d a H'->∃h,h<m/\W (i+1) h d a H')/\
   ∀x H3,J.yld i b x H3->g x k H3 λτ2 l=>tt τ2 l λc f=>
    if c=true then n τ2 f λy j=>j acc=some (.lst ys)/\ys.length<sizeLine/\N (ys++[y]) τ2 (upd j acc (.lst (ys++[y])))else N ys τ2 f)
def zb4 (a:TI)(imp:List (Option Nat))(g:TG)(tt:TT)(b:TE):TE:=λσ H Q=>a σ H λJ H1=>∀acc,H1 acc=none->iJ J acc g tt b (wy imp σ) (upd H1 acc (.lst [])) Q
section
variable {X:Cx}{pins:List (Addr×Obj)}{σ:St}{elt iter tg:Expr}{ifs:List Expr}{scope:Scope}{pos:Pos}{wi:TI}{g:TG}{tt:TT}{te:TE}{N:List Str}{imp:List (Option Nat)}
theorem rz {c:Hp}{s2:Shared}{it:Addr}{fp:List Addr}{tn:Nat->Heap->Prop}{J:It}{RR:Value->Addr->Result->Shared->Prop}{E:Value->Shared->Prop}{Q:VK}
  (hc:X.calm=true) (S:zP X.N X.env.scope N imp scope) (hg:∀C s2 c fp,PG (X.comp N scope C s2 c fp) tg g) (ht:∀C s2 c fp,vw (X.comp N scope C s2 c fp) ifs tt) (he:∀C s2 c fp,PE (X.comp N scope C s2 c fp) elt te)
  (Z:Inv X pins σ c s2) (T:Turn X.prog X.w X.K tg J fp it tn) (D:tn 0 s2.heap) (f2:∀b∈fp,yW X pins c b)
  (hW:∀acc,c acc=none->iJ J acc g tt te (wy imp σ) (upd c acc (.lst [])) Q)
  (b2:∀a C H' s' m,Inv X pins σ H' s'->s'.heap.Ns C m->yW X pins H' C->Q (.ref a) H'->RR (.ref a) C (.ok .next) s'):
  wpAny (model X.prog X.w) X.A (newList []) (λacc s3=>wpAny (model X.prog X.w) X.A (newFunctionEnv scope X.env.globals (ua X.env.cells scope.names []) [] X.env.qual none .none (some X.env)) (λB s4=>
   codeAny (model X.prog X.w) X.A (.compStart (.ListComp elt [⟨tg,iter,ifs,0⟩] scope pos) 0 (.ref it) acc {B with scope:=relabel scope X.env}) (RR acc B.locals) s4) E s3) E s2:=by
 refine wpAny_newObj_type (wpAny_newFunctionEnv S.nocell (by intro y hy;simp at hy) (λY k h=>?_) S.kind);dsimp only at k h ⊢;generalize G:s2.heap.push {cls:=.type "list",dict:=none,data:=.seq ([]:List Value).toArray}=HH at k h ⊢;have R:HH.objs.size=s2.heap.objs.size+1:=by rw[<-G,z57]
 have M:s2.heap.objs.size≠HH.objs.size:=by rw[R];exact z01 (z56 _)
 have old:∀b o,s2.heap.get? b=some o->Y.get? b=some o:=λb o e=>h.extBut b o (by rw[R];exact z01 (yb3 (zY6 e))) (zX7 _ (G▸zX7 _ e));have I:Y.get? s2.heap.objs.size=some {cls:=.type "list",data:=.seq ([]:List Value).toArray}:=h.extBut _ _ M (zX7 _ (G▸zZ0 _ rfl));obtain⟨W,⟨m0,w0⟩,turn⟩:=hW s2.heap.objs.size Z.fresh;generalize b7:HH.objs.size=C at k h R M ⊢;have ho:∀b∈fp,∃o,s2.heap.get? b=some o:=λb hb=>let⟨o,e,_⟩:=T.obj 0 _ D b hb;⟨o,e⟩;generalize f:s2.heap.objs.size=acc at *;have loop:∀s3:Shared,s3={s2 with heap:=Y,toks:=s2.toks+([]:List (Str×Value)).length}->
   codeAny (model X.prog X.w) X.A (.compLoop (.ListComp elt [⟨tg,iter,ifs,0⟩] scope pos) 0 (.ref it) (.ref acc) (X.comp N scope C s2 c fp).env) (RR (.ref acc) C) s3:=by
  rintro s3 rfl;have I3:Inv (X.comp N scope C s2 c fp) [] (wy imp σ) (upd c acc (.lst [])) {s2 with heap:=Y,toks:=s2.toks+([]:List (Str×Value)).length}:=
   bB Z S f2 ho f.symm (by rw[R,f]) old k I
  have b0:∀b∈fp,upd c acc (.lst []) b=none:=λb hb=>by
   obtain⟨o,e⟩:=ho b hb;rw[zc (by rw[<-f];exact z01 (zY6 e))];exact(f2 b hb).1
  have l:∀{H':Hp},(∀b∈fp,H' b=none)->∀b∈fp,yW (X.comp N scope C s2 c fp) [] H' b:=λhn b hb=>by
   obtain⟨e1,e2⟩:=I3.ok.exf b hb;exact⟨hn b hb,e1,I3.ok.exfs b hb,.inl hb,e2,λp hp=>absurd (show p∈([]:List (Addr×Obj))from hp) (by simp)⟩
  refine og (λn s'=>∃i ys q H',Inv (X.comp N scope C s2 c fp) [] q H' s'/\tn i s'.heap/\(∀b∈fp,H' b=none)/\W i n ys q H') ?_ m0
   ⟨0,[],_,_,I3,T.keep _ _ _ D λb _ o e=>old b o e,b0,w0⟩
  rintro n s4 ⟨i,ys,q,H4,I4,L,O,w4⟩;rcases turn i n ys q H4 w4 with⟨stop,qn⟩|⟨go,NN,hN,step⟩
  ·refine z31 (T.done (X.comp N scope C s2 c fp) rfl rfl rfl hc i [] s4 q H4 (λ_ _=>False) I4 (l O) L stop) (λr s5 a3=>?_) λ_ _ z=>z;obtain⟨hr,I5⟩:=a3;subst hr;obtain⟨m5,a5,_⟩:=id I5.loc;exact b2 acc C H4 s5 m5 (gg Z f2 I5) a5 (Z.fpOk (by rw[R,f];exact z82 _) I5.free) qn
  ·refine z31 (T.item (X.comp N scope C s2 c fp) rfl rfl rfl hc i [] s4 q H4 (λ_ _=>False) I4 (l O) L go) (λr s5 a7=>?_) λ_ _ z=>z;obtain⟨u,hr,h5⟩:=a7;subst hr;refine z31 h5 (λ_ s6 b4=>?_) λ_ _ z=>z;obtain⟨x,H6,I6,r6,y6,F,a1⟩:=b4;have a8:=I6.pinned (l a1) (T.obj _ _ F);refine z31 (hg C s2 c fp _ s6 q H6 x u _ a8 r6 (step x H6 y6)) (λ_ s7 b1=>?_) λ_ _ z=>z;obtain⟨j,H7,I7,q7⟩:=b1;refine z31 (ht C s2 c fp _ s7 j H7 _ I7 q7) (λok s8 a4=>?_) λ_ _ z=>z;obtain⟨H8,I8,q8⟩:=a4;have again:∀{s:List V} {t:Hp} {H:Shared},Inv (X.comp N scope C s2 c fp) ([]++sN fp s6.heap) j t H->NN s j t->∃m,m<n/\∃i ys q H',Inv (X.comp N scope C s2 c fp) [] q H' H/\tn i H.heap/\(∀b∈fp,H' b=none)/\W i m ys q H':=λ{s t H} P n9=>by
    obtain⟨m',hm,w9⟩:=hN s j t n9;refine⟨m',hm,i+1,s,j,t,P.unpinned,T.keep _ _ _ F λb hb o e=>(P.pin (b,o) (z25 _ (z25 _ (wK hb e)))).1,λb hb=>?_,w9⟩;obtain⟨o,e,d⟩:=T.obj _ _ F b hb;exact(P.pin (b,o) (z25 _ (z25 _ (wK hb e)))).2.1
   cases ok with
   |false=>
    have a0:NN ys j H8:=by
     have z:=q8;rw[if_neg z03]at z;exact z
    rw[if_neg z03];exact again I8 a0
   |true=>
    rw[if_pos rfl]at q8 ⊢;refine z31 (he C s2 c fp _ s8 j H8 _ I8 q8) (λv H b5=>?_) λ_ _ z=>z;obtain⟨y,t,P,r9,a9,z9,q9⟩:=b5;refine z31 (qA (X:=X.comp N scope C s2 c fp) _ H j t (.ref acc) [y] (.ref acc) [v] (λ_ U=>U=upd t acc (.lst (ys++[y]))) P rfl (.cons r9 .nil) ⟨acc,ys,y,rfl,rfl,a9,z9,rfl⟩) (λ_ b6 b3=>?_) λ_ _ z=>z;obtain⟨_,U,a2,_,a6⟩:=b3;subst a6;exact again a2 q9
 exact codeAny_compStart_list (loop _ rfl) (T.self X.A 0 _ _ _ (T.keep _ _ _ D λb _ o e=>old b o e) (loop _ rfl))
theorem zP8 (p:X.calm=true)(S:zP X.N X.env.scope N imp scope)(hi:PI X tg iter wi)(hg:∀C s2 c fp,PG (X.comp N scope C s2 c fp) tg g)(r:∀C s2 c fp,vw (X.comp N scope C s2 c fp) ifs tt)
  (he:∀C s2 c fp,PE (X.comp N scope C s2 c fp) elt te) (l:∀x,foldedSetIterable iter X.env x=pure x:=by intro _;rfl):
  PE X (.ListComp elt [⟨tg,iter,ifs,0⟩] scope pos) (zb4 wi imp g tt te):=by
 intro pins s σ H Q I h;rw[eval_ListComp];refine wpAny_comprehension_free (use:=none) rfl l (vN (vY I S)) S.kind S.locs (thn (hi pins s σ H _ I h) λv s1 i=>thn i λj s2 B=>?_);obtain⟨it,fp,tn,J,c,e,z,T,d,f2,hW⟩:=B;subst e;refine rz (RR:=λacc C=>compPost (model X.prog X.w) X.A X.xe none (EP X pins σ Q) acc C) p S hg r he z T d f2 hW λa C H' s' m u hn f q=>?_;refine⟨m,hn,λh' n=>?_⟩;obtain⟨y,g1,g2,g3,t,k⟩:=f;exact⟨.ref a,H',u.turned (t':=s'.toks) (it:=C) (λb o hb e=>(n.2 b hb).trans e) y g1 g3 t k,rfl,q⟩
theorem mZ {i:Nat}{x:Str}{px:Pos}{c:Pos}(F:X.calm=true)(S:zP X.N X.env.scope N imp scope)(hi:PI X tg iter wi)(hg:∀C s2 d fp,PG (X.comp N scope C s2 d fp) tg g)(K:∀C s2 d fp,vw (X.comp N scope C s2 d fp) ifs tt)
  (he:∀C s2 d fp,PE (X.comp N scope C s2 d fp) elt te) (U:X.N.Nodup) (y:X.N[i]?=some x) (G:Loc X.env.scope x) (n:swapsWith (.ListComp elt [⟨tg,iter,ifs,0⟩] scope pos) (some (.Name x px)) c.line X.env=pure true:=by rfl)
  (hf:X.fn x=true\/X.env.scope.names.lookup x=some .local:=by first|exact .inl rfl|exact .inr rfl|assumption) (B:∀x,foldedSetIterable iter X.env x=pure x:=by intro _;rfl):
  PS X (.Assign [.Name x px] (.ListComp elt [⟨tg,iter,ifs,0⟩] scope pos) c) (zI5 (zb4 wi imp g tt te) (sC i)):=by
 intro pins s σ H D I h;rw[exec_Assign_Name_used _ _ _ _ n];refine zX6 (yc9 (zX6 ?_));show wpAny _ X.A (do let _ <-comprehension (.ListComp elt [⟨tg,iter,ifs,0⟩] scope pos) scope X.env _ (newList []) false (eval iter X.env) (some (assign (.Name x px) X.env))) _ _ s;refine zX6 (z31 (wpAny_comprehension_free (use:=some (assign (.Name x px) X.env)) (Q:=λ_ s'=>SP X pins D .next s') rfl B (vN (vY I S)) S.kind S.locs (thn (hi pins s σ H _ I h) λv s1 t=>thn t λu s2 R=>?_))
  (λ_ s' hq=>zY4 (zY4 hq)) λ_ _ e=>e)
 obtain⟨it,fp,tn,J,d,e,P,T,k,f2,hW⟩:=R;subst e;refine rz (Q:=λx H1=>sC i x σ H1 D.nx) (RR:=λacc C=>compPost (model X.prog X.w) X.A X.xe (some (assign (.Name x px) X.env)) (λ_ s'=>SP X pins D .next s') acc C) F S hg K he P T k f2 hW λa C H' s' m M hn f q=>?_;show wpAny _ X.A (assign (.Name x px) X.env (.ref a)) _ _ _;obtain⟨O,g1,g2,g3,r,z⟩:=f;refine wpAny_assign_Name (qV M U y G (show RelV (.ref a) (.ref a)from rfl) (λs4 L p=>?_) hf);obtain⟨ad,E,had⟩:=p;have j:C≠ad:=by
  rcases had with e|e
  ·rw[e];exact g1
  ·exact(r x ad e).symm
 refine⟨m,hn.sameBut E j,λh' l=>?_⟩;exact⟨_,H',L.turned (t':=s4.toks) (it:=C) (λb o hb e=>(l.2 b hb).trans e) O g1 g3 r z,q⟩
end
mutual
inductive DV (H:Hp):V->PyData->Prop where
 |non:DV H .non .none
 |bl (b:Bool):DV H (.bl b) (.bool b)
 |int (i:Int):DV H (.int i) (.int i)
 |str (x:Str):DV H (.str x) (.str x)
 |lst {a:Addr}{xs:List V}{ds:List PyData}:H a=some (.lst xs)->DVs H xs ds->DV H (.ref a) (.list ds)
 |tup {a:Addr}{xs:List V}{ds:List PyData}:H a=some (.tup xs)->DVs H xs ds->DV H (.ref a) (.tuple ds)
inductive DVs (H:Hp):List V->List PyData->Prop where
 |nil:DVs H [] []
 |cons {x:V}{xs:List V}{d:PyData}{ds:List PyData}:DV H x d->DVs H xs ds->DVs H (x::xs) (d::ds)
end
theorem zA1 {H:Hp}{m1:V->PyData->Prop}{m2:List V->List PyData->Prop}(g:m1 .non .none)(f:∀b,m1 (.bl b) (.bool b))(e:∀i,m1 (.int i) (.int i))(c:∀x,m1 (.str x) (.str x))
  (o:∀{a:Addr} {xs:List V} {ds:List PyData},H a=some (.lst xs)->m2 xs ds->m1 (.ref a) (.list ds)) (p:∀{a:Addr} {xs:List V} {ds:List PyData},H a=some (.tup xs)->m2 xs ds->m1 (.ref a) (.tuple ds)) (j:m2 [] []) (k2:∀{x:V} {xs:List V} {d:PyData} {ds:List PyData},m1 x d->m2 xs ds->m2 (x::xs) (d::ds)):
  (∀x d,DV H x d->m1 x d)/\∀xs ds,DVs H xs ds->m2 xs ds:=by
 let n:=λx d (_:DV H x d)=>m1 x d
 let M2:=λx d (_:DVs H x d)=>m2 x d
 have k:=λ{a} {xs} {ds} (q:H a=some (.lst xs)) (_:DVs H xs ds) (z:m2 xs ds)=>o (a:=a) q z;have l:=λ{a} {xs} {ds} (q:H a=some (.tup xs)) (_:DVs H xs ds) (z:m2 xs ds)=>p (a:=a) q z;have m:=λ{x} {xs} {d} {ds} (_:DV H x d) (_:DVs H xs ds) (y:m1 x d) (z:m2 xs ds)=>k2 y z;exact⟨λ_ _ h=>@DV.rec H n M2 g f e c k l j m _ _ h,λ_ _ h=>@DVs.rec H n M2 g f e c k l j m _ _ h⟩
theorem DVs.ind {H:Hp}{motive:(xs:List V)->(ds:List PyData)->DVs H xs ds->Prop}(nil:motive [] [] .nil)(cons:∀{x:V}{xs:List V}{d:PyData}{ds:List PyData} (a:DV H x d) (r:DVs H xs ds),motive xs ds r->motive (x::xs) (d::ds) (.cons a r)){xs:List V}{ds:List PyData}(h:DVs H xs ds):motive xs ds h:=
 ((zA1 (m1:=DV H) (m2:=λxs ds=>∃h:DVs H xs ds,motive xs ds h) .non .bl .int .str (λq z=>.lst q z.1) (λq z=>.tup q z.1) ⟨.nil,nil⟩ (λa z=>⟨.cons a z.1,cons a z.1 z.2⟩)).2 _ _ h).2
section
variable {X:Cx}{pins:List (Addr×Obj)}{σ:St}{H:Hp}{s:Shared}
theorem zj1 (I:Inv X pins σ H s):(∀x d,DV H x d->∀u,RelV x u->∃as,Reads s.heap u d as)/\∀xs ds,DVs H xs ds->∀us,Vals xs us->∃as,ReadsAll s.heap us ds as:=by
 refine zA1 (m1:=λx d=>∀u,RelV x u->∃as,Reads s.heap u d as) (m2:=λxs ds=>∀us,Vals xs us->∃as,ReadsAll s.heap us ds as) ?_ ?_ ?_ ?_ ?_ ?_ ?_ ?_
 ·intro u r;cases(show u=Value.none from r);exact⟨_,.none⟩
 ·intro b u r;cases(show u=Value.bool b from r);exact⟨_,.bool b⟩
 ·intro i u r;obtain⟨t,rfl⟩:=(show ∃t,u=Value.int i t from r);exact⟨_,.int i t⟩
 ·intro x u r;obtain⟨t,rfl⟩:=(show ∃t,u=Value.str x t from r);exact⟨_,.str x t⟩
 ·intro a xs ds hq e u r;cases(show u=Value.ref a from r);obtain⟨its,g,p,hz⟩:=I.list (SqL.of hq);obtain⟨o,f,j,n,hd⟩:=p.isList;obtain⟨as,c⟩:=e _ g;exact⟨_,.list f j hd (by simpa using c)⟩
 ·intro a xs ds hq e u r;cases(show u=Value.ref a from r);obtain⟨its,g,p,hz⟩:=I.tuple (SqT.of hq);obtain⟨o,f,j,n,hd⟩:=p;obtain⟨as,c⟩:=e _ g;exact⟨_,.tuple f j hd (by simpa using c)⟩
 ·intro us r;cases r;exact⟨_,.nil⟩
 ·intro x xs d ds h e us r;cases r with
  |cons r rs=>
   obtain⟨as,c⟩:=h _ r;obtain⟨bs,k⟩:=e _ rs;exact⟨_,.cons c k⟩
theorem DV.reads (I:Inv X pins σ H s){x:V}{d:PyData}{u:Value}(h:DV H x d)(r:RelV x u):∃as,Reads s.heap u d as:=(zj1 I).1 _ _ h _ r
end
theorem cP {H H':Hp}(e:zu H H'):(∀x d,DV H x d->DV H' x d)/\∀xs ds,DVs H xs ds->DVs H' xs ds:=zA1 .non .bl .int .str (λq=>.lst (e _ _ q)) (λq=>.tup (e _ _ q)) .nil .cons
theorem DV.same {H H':Hp}(e:zu H H'){x:V}{d:PyData}(h:DV H x d):DV H' x d:=(cP e).1 _ _ h
theorem DVs.same {H H':Hp}(e:zu H H'){xs:List V}{ds:List PyData}(h:DVs H xs ds):DVs H' xs ds:=(cP e).2 _ _ h
theorem DVs.length {H:Hp}{xs:List V}{ds:List PyData}(h:DVs H xs ds):xs.length=ds.length:=h.ind (motive:=λxs ds _=>xs.length=ds.length) rfl λ_ _ z=>congrArg (·+1) z
def tyD :PyData->String
 |.none=>"NoneType"
 |.bool _=>"bool"
 |.int _=>"int"
 |.str _=>"str"
 |.list _=>"list"
 |.tuple _=>"tuple"
 |.dict _=>"dict"
theorem DV.ty {K:PySem.W.Frag}{H:Hp}{x:V}{d:PyData}(h:DV H x d):uG K H x (.type (tyD d)):=by
 cases h with
 |non=>exact .non
 |bl b=>exact .bl b
 |int i=>exact .int i
 |str x=>exact .str x
 |lst e _=>exact .lst e
 |tup e _=>exact .tup e
def isInt :PyData->Bool
 |.int _=>true
 |.bool _=>true
 |_=>false
def isBool :PyData->Bool
 |.bool _=>true
 |_=>false
def isStr :PyData->Bool
 |.str _=>true
 |_=>false
def isList :PyData->Bool
 |.list _=>true
 |_=>false
def zo0 :PyData->Bool
 |.tuple _=>true
 |_=>false
def zl5 (T:String)(d:PyData):Option Bool:=
 if T="int" then some (isInt d)else if T="bool" then some (isBool d)else if T="str" then some (isStr d)else if T="list" then some (isList d)else if T="tuple" then some (zo0 d)else none
def zD9 (t T:String):Option Bool:=if(Value.type t == Value.type T)=true then some true else if PySem.W.kitMeta T=true then(fastBuiltinMro t).map (·.contains (Value.type T))else none
theorem cT (K:PySem.W.Frag)(t T:String):PySem.W.kitOne K (.type t) (.type T)=zD9 t T:=rfl
theorem dg :(["NoneType","bool","int","str","list","tuple"].all λt=>["int","bool","str","list","tuple"].all λT=>
  zD9 t T == some (if T="int" then t == "int"||t == "bool" else t == T))=true:=by decide +kernel
theorem zK0 (K:PySem.W.Frag){H:Hp}{x:V}{d:PyData}(h:DV H x d){T:String}{b:Bool}(e:zl5 T d=some b):PySem.W.kitOne K (.type (tyD d)) (.type T)=some b:=by
 rw[cT];have key:∀t∈["NoneType","bool","int","str","list","tuple"],∀T∈["int","bool","str","list","tuple"],zD9 t T=some (if T="int" then t == "int"||t == "bool" else t == T):=λt c T hT=>
  eq_of_beq (ya5.mp (ya5.mp dg t c) T hT)
 have hd:tyD d∈["NoneType","bool","int","str","list","tuple"]:=by cases h<;>simp[tyD]
 unfold zl5 at e;split at e
 ·rename_i a;subst a;rw[key _ hd "int" (by decide)];cases e;cases h<;>rfl
 ·split at e
  ·rename_i a;subst a;rw[key _ hd "bool" (by decide)];cases e;cases h<;>rfl
  ·split at e
   ·rename_i a;subst a;rw[key _ hd "str" (by decide)];cases e;cases h<;>rfl
   ·split at e
    ·rename_i a;subst a;rw[key _ hd "list" (by decide)];cases e;cases h<;>rfl
    ·split at e
     ·rename_i a;subst a;rw[key _ hd "tuple" (by decide)];cases e;cases h<;>rfl
     ·cases e
section
variable {X:Cx}
def zS2 :R2:=λx y H Q=>∃d e,DV H x d/\DV H y e/\SeqAt.shaped d=true/\SeqAt.shaped e=true/\Q (.bl (PyData.eqv d e)) H
def zP2 :R2:=λx y H Q=>∃d e,DV H x d/\DV H y e/\SeqAt.shaped d=true/\SeqAt.shaped e=true/\Q (.bl (!PyData.eqv d e)) H
theorem zB7 (i:X.A.units+64<cLine):OpR X (compareOp .Eq) zS2:=by
 intro pins s σ H x y v u Q I j a h;obtain⟨d,e,hd,he,c,b,q⟩:=h;obtain⟨as,f⟩:=hd.reads I j;obtain⟨bs,g⟩:=he.reads I a;exact SeqAt.compareEq_shaped f g c b i ⟨.bl _,H,I,rfl,q⟩
theorem zH1 (i:X.A.units+64<cLine):OpR X (compareOp .NotEq) zP2:=by
 intro pins s σ H x y v u Q I j a h;obtain⟨d,e,hd,he,c,b,q⟩:=h;obtain⟨as,f⟩:=hd.reads I j;obtain⟨bs,g⟩:=he.reads I a;exact SeqAt.compareNe_shaped f g c b i ⟨.bl _,H,I,rfl,q⟩
theorem cD :xi X (.builtin "isinstance") (λxs H Q=>∃x T t b,xs=[x,.ty T]/\uG X.K H x t/\PySem.W.kitOne X.K t (.type T)=some b/\Q (.bl b) H):=by
 intro pins s σ H xs us Q I r h;obtain⟨x,T,t,b,rfl,ty,e,q⟩:=h;obtain⟨u,v,rfl,c,a⟩:=Vals.two r;cases(show v=Value.type T from a);exact eQ I c ty e λtk=>⟨.bl b,H,I.tok tk,rfl,q⟩
theorem ed :xi X (.builtin "isinstance") (λxs H Q=>∃x T d b,xs=[x,.ty T]/\DV H x d/\zl5 T d=some b/\Q (.bl b) H):=by
 intro pins s σ H xs us Q I r h;obtain⟨x,T,d,b,e,hd,a,q⟩:=h;exact cD pins s σ H xs us Q I r ⟨x,T,_,b,e,hd.ty,zK0 X.K hd a,q⟩
def zx3 (i j:Int):Prop:=0<j/\j.natAbs.log2<9000
theorem sx :OpR X (binaryOp .FloorDiv) (rI zx3 λi j=>.int (i / j)):=opI λi j _ _ _ _ _ a q=>by
 have b:(0:Int)<j:=a.1;refine floordiv_int (Int.ne_of_gt b) ?_ (.inl (PyProof.noPylong_of_log2 a.2));rw[Int.fdiv_eq_ediv_of_nonneg _ (Int.le_of_lt b)];exact q
abbrev big :Int:=115792089237316195423570985008687907853269984665640564039457584007913129639936
theorem log2_small {j:Int}(h0:0<j)(h:j<big):j.natAbs.log2<9000:=by
 have hn:j.natAbs≠0:=by lia
 have a:j.natAbs<2 ^ 256:=by
  have e:(2:Nat) ^ 256=115792089237316195423570985008687907853269984665640564039457584007913129639936:=by decide +kernel
  rw[e];unfold big at h
  lia
 have b:j.natAbs.log2<256:=(Nat.log2_lt hn).mpr a
 lia
theorem ly :xi X (.type "range") (λxs H Q=>∃i j:Int,xs=[.int i,.int j]/\∀p,H p=none->Q (.ref p) (upd H p (.rng i j))):=by
 intro pins s σ H xs us Q I r h;obtain⟨i,j,rfl,q⟩:=h;obtain⟨u,v,rfl,⟨t,rfl⟩,⟨t',rfl⟩⟩:=Vals.two r;refine call_range_2 ⟨.ref s.heap.objs.size,_,I.laid (o:=.rng i j) (λb u e=>zX7 _ e) (zY3 _) ⟨t,t',s.toks,zZ0 _ rfl⟩,rfl,q _ (I.hok.fresh (zY3 _))⟩
def zw (lo:Int)(n:Nat):List Int:=(List.range n).map λi=>lo+(i:Nat)
theorem zl (lo:Int)(n:Nat):(zw lo n).length=n:=by simp[zw]
theorem yA {lo:Int}{n i:Nat}(h:i<n):(zw lo n)[i]?=some (lo+(i:Nat)):=by simp[zw,h]
theorem qk {lo:Int}{n:Nat}{acc:Array Value}(h:ItemsOf (λi v=>∃t,v=.int (lo+i*1) t) acc n):Vals ((zw lo n).map V.int) acc.toList:=by
 obtain⟨d,f⟩:=h;have key:∀(xs:List V) (us:List Value),xs.length=us.length->(∀(i:Nat) (x:V) (u:Value),xs[i]?=some x->us[i]?=some u->RelV x u)->Vals xs us:=by
  intro xs
  induction xs with
  |nil=>intro us a _;cases us with|nil=>exact .nil|cons _ _=>simp at a
  |cons x xs g=>
   intro us a hr;cases us with
   |nil=>simp at a
   |cons u us=>exact .cons (hr 0 x u rfl rfl) (g us (by simpa using a) λi e j e1 b=>hr (i+1) e j (by simpa using e1) (by simpa using b))
 refine key _ _ ?_ λi x u e1 b=>?_
 ·rw[zX8,zl];simp[d]
 ·rw[zY7]at e1;have hi:i<n:=by
   have:=(zY0.mp b).1;simp[d]at this;exact this
  rw[yA hi]at e1;have c:V.int (lo+(i:Nat))=x:=z09 e1;subst c;obtain⟨t,k⟩:=f i u (by simpa using b);refine⟨t,?_⟩;rw[k,Int.mul_one]
theorem qj (g:X.calm=true):xi X (.type "list") (λxs H Q=>∃(p:Addr) (lo hi:Int),xs=[.ref p]/\H p=some (.rng lo hi)/\(-(2 ^ 62)<=lo/\lo<2 ^ 62/\-(2 ^ 62)<=hi/\hi<2 ^ 62)/\(hi-lo).toNat<=sizeLine/\(hi-lo).toNat<=2 ^ 24/\
  ∀l,H l=none->Q (.ref l) (upd H l (.lst ((zw lo (hi-lo).toNat).map V.int)))):=by
 intro pins s σ H xs us Q I r h;obtain⟨p,lo,hi,rfl,c,⟨v,k,d,f⟩,hz,b,q⟩:=h;obtain⟨u,rfl,j⟩:=Vals.one r;cases(show u=Value.ref p from j);obtain⟨t,t',m,e⟩:=(show zD X.prog X.w H s.heap p (.rng lo hi)from I.hok p _ c);refine call_list_range (I.ok.hd g) e (small_one v k d f) (n:=(hi-lo).toNat) (by rw[rangeSize_one];split<;>lia) b λh' tk a c' hk i hit=>?_;refine⟨.ref s.heap.objs.size,_,I.laid (o:=.lst ((zw lo (hi-lo).toNat).map V.int)) (t':=tk) hk (zY3 _) ⟨by rw[zX8,zl];exact hz,a.toList,c',qk hit,by simpa using i⟩,rfl,q _ (I.hok.fresh (zY3 _))⟩
theorem bG {bs:List Bool}:∀{us:List Value},Vals (bs.map V.bl) us->LSm.BoolsAre us bs:=by
 induction bs with
 |nil=>intro us h;cases h;exact .nil
 |cons b bs c=>
  intro us h;cases h with
  |cons r a=>
   cases(show _=Value.bool b from r);exact .cons b (c a)
end
def oX (X:Cx)(body:List Stmt):TS:=λD σ H=>∃t,PSs X body t/\t D σ H
theorem zB {X:Cx}{body:List Stmt}:PSs X body (oX X body):=λpins s σ H D I ⟨t,p,q⟩=>p pins s σ H D I q
theorem sf {X:Cx}{st:Stmt}{rest:List Stmt}{D:Ends}{σ:St}{H:Hp}(M:St->Hp->Prop)(f:∃t,PS X st t/\t {D with nx:=M} σ H)(l:∀a H',M a H'->∃t,PSs X rest t/\t D a H'):
  ∃t,PSs X (st::rest) t/\t D σ H:=by
 obtain⟨t1,p1,j⟩:=f;refine⟨λc a H'=>c=D/\a=σ/\H'=H,?_,rfl,rfl,rfl⟩;intro pins s a H' c I h;obtain⟨e1,g,n⟩:=h;subst e1 g n;have step:PSs X (st::rest) (zO2 t1 λd σ2 b=>d=c/\M σ2 b):=zv p1 λpins s σ2 b d i ⟨e,m⟩=>by
  subst e;obtain⟨t2,p2,k⟩:=l σ2 b m;exact p2 pins s σ2 b _ i k
 refine step pins s _ _ _ I ?_;show t1 {c with nx:=λσ2 b=>c=c/\M σ2 b} _ _;have e:(λ(σ2:St) (b:Hp)=>c=c/\M σ2 b)=M:=by
  funext σ2 b
  exact propext ⟨λz=>z.2,λz=>⟨rfl,z⟩⟩
 rw[e];exact j
theorem dH (ns:List Int)(lo hi:Option Int):∃ms:List Int,nG (ns.map V.int) lo hi=ms.map V.int/\ms.length<=ns.length:=by
 refine⟨(ns.drop (HT.sIx (ns.map V.int).length 0 lo)).take (HT.sIx (ns.map V.int).length (ns.map V.int).length hi-HT.sIx (ns.map V.int).length 0 lo),?_,?_⟩
 ·unfold nG;rw[yi6,List.map_drop]
 ·rw[z46,yc3];omega
def zT6 (bs:List Int):Prop:=∃x y:Int,bs=[x,y]/\0<=y/\y<4294967296
structure yN (H:Hp)(t b c:Addr):Prop where
 ex:∃(n:Int) (bs cs:List Int),(b=t/\c=t)/\H t=some (.lst (bs.map V.int))/\H b=some (.lst (bs.map V.int))/\H c=some (.lst (cs.map V.int))/\zT6 bs/\n=0
def zD5 (t b:Addr)(H H':Hp):Prop:=∀a,a≠t->a≠b->H' a=H a
def cK :Sp:=λvs H Q _=>∃(t b c:Addr) (many:Int),vs=[.ref t,.int many]/\yN H t b c/\0<many/\many<big/\
 ∀(v:Int) (H':Hp),0<=v->v<many->yN H' t b c->zD5 t b H H'->Q (.int v) H'
theorem yN.free {H:Hp}{t b c l:Addr}(T:yN H t b c)(h:H l=none):l≠t/\l≠b/\l≠c:=by
 obtain⟨n,bs,cs,n1,e1,a,d,l1,l2⟩:=T.ex;exact⟨(zk e1 h).symm,(zk a h).symm,(zk d h).symm⟩
theorem yN.off {H H':Hp}{t b c:Addr}(T:yN H t b c)(h:∀a,a=t\/a=b\/a=c->H' a=H a):yN H' t b c:=by
 obtain⟨n,bs,cs,n1,e1,d,e,l1,l2⟩:=T.ex;exact⟨n,bs,cs,n1,by rw[h t (.inl rfl)];exact e1,by rw[h b (.inr (.inl rfl))];exact d,by rw[h c (.inr (.inr rfl))];exact e,l1,l2⟩
theorem aA {H:Hp}{t b c l:Addr}{o:HO}(T:yN H t b c)(h:l≠t/\l≠b/\l≠c):yN (upd H l o) t b c:=
 T.off λa ha=>zc (ha.elim (λe=>e▸h.1.symm) λha=>ha.elim (λe=>e▸h.2.1.symm) λe=>e▸h.2.2.symm)
theorem gX {H H':Hp}{t b c:Addr}(T:yN H t b c)(s:zu H H'):yN H' t b c:=by
 obtain⟨n,bs,cs,n1,e1,a,d,l1,l2⟩:=T.ex;exact⟨n,bs,cs,n1,s _ _ e1,s _ _ a,s _ _ d,l1,l2⟩
theorem zH {H:Hp}{p:Addr}{o:HO}(h:H p=none):zu H (upd H p o):=λb u e=>by rw[zc (zk e h)];exact e
def yk :Addr:=(443:Nat)
def xG :Str:="cheapest_first.<locals>.<lambda>"
def tH (x:Addr):Prop:=x=yk
def tI (c:Addr):HO:=.ext λh=>h.CodeRec (.ref c) xG
structure TabAt (H:Hp):Prop where
 ex:∃ps:Array Value,H yk=some (.tbl ps)/\TriplesOk ps.toList/\∀pos cv,codeAmong pos ps.toList=some cv->∃c,cv=.ref c/\H c=some (tI c)
theorem rP {H H':Hp}(T:TabAt H)(h:∀a o,(∀xs,o≠.lst xs)->H a=some o->H' a=some o):TabAt H':=by
 obtain⟨ps,e1,e,f⟩:=T.ex;refine⟨ps,h _ _ (λxs z=>nomatch z) e1,e,λpos cv d=>?_⟩;obtain⟨c,rfl,b⟩:=f pos cv d;exact⟨c,rfl,h _ _ (λxs z=>nomatch z) b⟩
def Plain (H:Hp)(l:Addr):Prop:=∀o,H l=some o->o≠tI l/\∀ps,o≠.tbl ps
theorem zg8 {H:Hp}{l:Addr}{o:HO}(T:TabAt H)(h:Plain H l):TabAt (upd H l o):=by
 obtain⟨ps,e1,d,e⟩:=T.ex;have n1:yk≠l:=λz=>by rw[z]at e1;exact(h _ e1).2 ps rfl
 refine⟨ps,by rw[zc n1];exact e1,d,λpos cv b=>?_⟩;obtain⟨c,rfl,a⟩:=e pos cv b;have f:c≠l:=λz=>by subst z;exact(h _ a).1 rfl
 exact⟨c,rfl,by rw[zc f];exact a⟩
theorem iZ {ps:Array Value}:∀ts,HO.tbl ps≠HO.tup ts:=λ_ z=>by cases z
theorem tV {H:Hp}{x:Addr}(T:TabAt H)(h:tH x):∃o,H x=some o/\(∀ts,o≠.tup ts)/\∀xs,o≠.lst xs:=by
 obtain⟨ps,e1,_⟩:=T.ex;exact⟨_,by rw[h];exact e1,iZ,λ_ z=>by cases z⟩
theorem qY {H:Hp}{l:Addr}{xs:List V}(h:H l=some (.lst xs)):Plain H l:=λo e=>by
 rw[h]at e;cases e;exact⟨(λz=>by cases z),λps z=>by cases z⟩
theorem qf {H:Hp}{l:Addr}{xs:List (Key×V)}(h:H l=some (.dK xs)):Plain H l:=λo e=>by
 rw[h]at e;cases e;exact⟨(λz=>by cases z),λps z=>by cases z⟩
theorem gE {H:Hp}{l C dx:Addr}{fs:List (Str×V)}(h:H l=some (.ins C dx fs)):Plain H l:=λo e=>by
 rw[h]at e;cases e;exact⟨(λz=>by cases z),λps z=>by cases z⟩
theorem uE {H:Hp}{l:Addr}(T:TabAt H)(h:H l=none):¬tH l:=λz=>by
 obtain⟨o,e,_⟩:=tV T z;rw[h]at e;cases e
theorem zl1 {H H':Hp}{t b:Addr}{xs ys:List V}(T:TabAt H)(d:H t=some (.lst xs))(hb:H b=some (.lst ys))(off:zD5 t b H H'):TabAt H':=rP T λa o no e=>by
 have n1:a≠t:=λz=>by rw[z,d]at e;cases e;exact no _ rfl
 have c:a≠b:=λz=>by rw[z,hb]at e;cases e;exact no _ rfl
 rw[off a n1 c];exact e
theorem zC1 {H H':Hp}(T:TabAt H)(h:zu H H'):TabAt H':=rP T λa o _ e=>h a o e
def nO (K:PySem.W.Frag):Sp:=λvs H Q _=>∃(a:Addr) (ns:List Int),vs=[.ref a]/\SqL K H a (ns.map V.int)/\ns.length<=63/\TabAt H/\∀H',Q (.bl true) H'
structure zY (n:Nat)(d:PyData):Prop where
 shw:d.showable=true
 nod:d.hasDict=false
 dep:d.depth<=8
 len:d.shown.length<=n
 lay:d.canLay0=true
theorem zY.mono {m n:Nat}{d:PyData}(h:zY m d)(e:m<=n):zY n d:=⟨h.shw,h.nod,h.dep,zY8 h.len e,h.lay⟩
theorem tG :∀(ts:List Str) (k:Nat) (acc:Str),(textFrom k acc ts).length<=acc.length+piled ts
 |[],_,acc=>by rw[piled_nil];exact zY3 _
 |t::r,k,acc=>by
  have h:=tG r (k+1) (acc++(if k > 0 then ", " else "":String)++t);rw[piled_cons];have a:(Str.ofString (if k > 0 then ", " else "":String)).length<=2:=by
   split
   ·exact zZ7 rfl
   ·exact zZ6 _
  have c:=yf9 (acc++Str.ofString (if k > 0 then ", " else "":String)) t;have b:=yf9 acc (Str.ofString (if k > 0 then ", " else "":String));show(textFrom (k+1) (acc++Str.ofString (if k > 0 then ", " else "":String)++t) r).length<=_;have h':(textFrom (k+1) (acc++Str.ofString (if k > 0 then ", " else "":String)++t) r).length<=(acc++Str.ofString (if k > 0 then ", " else "":String)++t).length+piled r:=h
  lia
theorem nv (ts:List Str):(listText ts).length<=piled ts+2:=by
 unfold listText;rw[yf9];have h:=tG ts 0 (Str.ofString "[");have e1:(Str.ofString "[").length=1:=rfl;have a:(Str.ofString "]").length=1:=rfl;show(textFrom 0 (Str.ofString "[") ts).length+(Str.ofString "]").length<=_
 lia
theorem oP (ts:List Str):(tupleText ts).length<=piled ts+3:=by
 cases ts with
 |nil=>decide +kernel
 |cons t r=>
  have h:=join_length_add (t::r) (by simp);unfold tupleText;rw[yf9,yf9];have e1:(Str.ofString "(").length=1:=rfl;have a:(Str.ofString (if(t::r).length == 1 then ",)" else ")":String)).length<=2:=by
   split
   ·exact zZ7 rfl
   ·exact z30 (show 1<2 by decide)
  show(Str.ofString "(").length+(Str.join ", " (t::r)).length+(Str.ofString (if(t::r).length == 1 then ",)" else ")":String)).length<=_
  lia
theorem vm {n:Nat}:∀(ds:List PyData),(∀d∈ds,zY n d)->piled (PyData.shownAll ds)<=ds.length*(n+2)
 |[],_=>zZ6 _
 |d::r,h=>by
  have a:=(h d zY9).len;have b:=vm r λe he=>h e (zY5 _ he);show piled (d.shown::PyData.shownAll r)<=_;rw[piled_cons,z00,Nat.succ_mul]
  lia
structure zZ (n:Nat)(ds:List PyData):Prop where
 all:∀d∈ds,zY n d
 dep:∀d∈ds,d.depth<=7
theorem zZ.parts {n:Nat}:∀{ds:List PyData},zZ n ds->PyData.showableAll ds=true/\PyData.hasDictAll ds=false/\PyData.depthAll ds<=7/\PyData.canLayAll0 ds=true
 |[],_=>⟨rfl,rfl,zZ6 _,rfl⟩
 |d::r,h=>by
  obtain⟨a,b,c,e⟩:=zZ.parts (ds:=r) ⟨λx f=>h.all x (zY5 _ f),λx f=>h.dep x (zY5 _ f)⟩;have hd:=h.all d zY9;have g:=h.dep d zY9;refine⟨?_,?_,?_,?_⟩
  ·simp only[PyData.showableAll,hd.shw,a,Bool.and_self]
  ·simp only[PyData.hasDictAll,hd.nod,b,Bool.or_self]
  ·simp only[PyData.depthAll];exact zR8 g c
  ·simp only[PyData.canLayAll0,hd.lay,e,Bool.and_self]
theorem zY.list {n m:Nat}{ds:List PyData}(h:zZ n ds)(e:ds.length*(n+2)+2<=m):zY m (.list ds):=by
 obtain⟨a,b,c,f⟩:=h.parts;refine⟨by simp only[PyData.showable,a],by simp only[PyData.hasDict,b],by simp only[PyData.depth];exact zw5 c,?_,by simp only[PyData.canLay0,f]⟩;show(listText (PyData.shownAll ds)).length<=m;have d:=nv (PyData.shownAll ds);have g:=vm ds h.all;exact zw6 e d g
theorem zY.tuple {n m:Nat}{ds:List PyData}(h:zZ n ds)(e:ds.length*(n+2)+3<=m):zY m (.tuple ds):=by
 obtain⟨a,b,c,f⟩:=h.parts;refine⟨by simp only[PyData.showable,a],by simp only[PyData.hasDict,b],by simp only[PyData.depth];exact zw5 c,?_,by simp only[PyData.canLay0,f]⟩;show(tupleText (PyData.shownAll ds)).length<=m;have d:=oP (PyData.shownAll ds);have g:=vm ds h.all;exact zw6 e d g
theorem bj {i:Int}(h0:-big<i)(b:i<big):i.natAbs.log2<1920:=by
 by_cases hn:i.natAbs=0
 ·rw[hn];decide
 ·have a:i.natAbs<2 ^ 256:=by
   have e:(2:Nat) ^ 256=115792089237316195423570985008687907853269984665640564039457584007913129639936:=by decide +kernel
   rw[e];unfold big at h0 b
   lia
  have c:i.natAbs.log2<256:=(Nat.log2_lt hn).mpr a
  lia
theorem zY.int {i:Int}(h0:-big<i)(b:i<big):zY 2000 (.int i):=by
 have a:=bj h0 b;refine⟨by simp only[PyData.showable,z50];exact a,rfl,zZ6 _,?_,rfl⟩;have:=int_text_len_1921 a;show(Str.ofString (toString i)).length<=2000
 lia
theorem zY.none :zY 2000 .none:=⟨rfl,rfl,zZ6 _,by decide +kernel,rfl⟩
theorem zY.bool (b:Bool):zY 2000 (.bool b):=⟨rfl,rfl,zZ6 _,by cases b<;>decide +kernel,rfl⟩
theorem zY.shaped {n:Nat}{d:PyData}(h:zY n d):SeqAt.shaped d=true:=by
 unfold SeqAt.shaped;rw[h.lay,yg0,z50];have:=h.dep
 lia
section
variable {X:Cx}
theorem gO {s:Shared}{h':Heap}{o:Obj}{q:Addr}(hq:q=s.heap.objs.size)(hk:∀b x,b∉[q]->(s.heap.push o).get? b=some x->h'.get? b=some x):∀b x,s.heap.get? b=some x->h'.get? b=some x:=λb x e=>by
 refine hk b x (λhm=>?_) (zX7 _ e);have a:b=q:=by simpa using hm
 rw[a,hq]at e;exact z36 _ (zY6 e)
theorem gB (j:X.calm=true):xi X (.builtin "any") (λxs H Q=>∃(p:Addr) (bs:List Bool),xs=[.ref p]/\H p=some (.lst (bs.map V.bl))/\Q (.bl (bs.any id)) H):=by
 intro pins s σ H xs us Q I r h;obtain⟨p,bs,rfl,d,q⟩:=h;obtain⟨u,rfl,l⟩:=Vals.one r;cases(show u=Value.ref p from l);obtain⟨its,g,pl,hz⟩:=I.list (SqL.of d);have e:=bG g;have f:=pl.isList;have c:p<s.heap.objs.size:=I.hok.lt d;refine call_any_walk (z74 f ⟨s.heap.objs.size,[s.heap.objs.size,p],[s.heap.objs.size],its.toArray.size,_,_,λi=>(bs[i]?).getD false,rfl,
  Walks.list (A:=X.A.in1) (I.ok.hd j) _ p (z01 c) its.toArray,⟨⟨_,zZ0 _ rfl,rfl,rfl⟩,f.push _⟩,λi v s' t o m a=>?_,λh' tk hk=>?_⟩)
 ·obtain⟨b,n,rfl⟩:=e.get i v (by simpa using m);dsimp only at a;rw[n]at a;exact z65 a
 ·have k:((List.range its.toArray.size).any λi=>(bs[i]?).getD false)=bs.any id:=by
   rw[zZ5,e.length];exact LSm.range_any bs
  rw[k];exact⟨.bl _,H,I.kept (t':=tk) (gO rfl hk),rfl,q⟩
end
def zX4 :PyData->Bool
 |.int _=>true
 |_=>false
def yI (lo hi:Int):PyData->Bool
 |.int i=>decide (lo<=i)&&decide (i<=hi)
 |_=>false
def pairD :PyData->Bool
 |.tuple ds=>decide ((ds.length:Int)=2)
 |_=>false
abbrev gA :PyData->Bool:=yI 0 1000000
def zX5 :PyData->Bool
 |.tuple [a,b]=>gA a&&gA b
 |_=>false
def zC8 :PyData->Option Int
 |.tuple [.int a,.int b]=>if gA (.int a)&&gA (.int b)then some (b-a)else none
 |_=>none
def vh (d:PyData):Bool:=match zC8 d with
 |some k=>decide (0<=k)
 |none=>false
noncomputable def sub (p:Addr->Prop)(H:Hp):Hp:=λa=>open Classical in if p a then H a else none
theorem zb {p:Addr->Prop}{H:Hp}{a:Addr}{o:HO}(h:sub p H a=some o):p a/\H a=some o:=by
 unfold sub at h;split at h
 ·rename_i b;exact⟨b,h⟩
 ·cases h
theorem zt {p:Addr->Prop}{H:Hp}{a:Addr}{o:HO}(b:p a)(h:H a=some o):sub p H a=some o:=by
 unfold sub;rw[if_pos b];exact h
theorem zm {p q:Addr->Prop}{H H':Hp}(h:∀a o,p a->H a=some o->q a/\H' a=some o):zu (sub p H) (sub q H'):=λa o e=>by
 obtain⟨c,he⟩:=zb e;obtain⟨hq,b⟩:=h a o c he;exact zt hq b
theorem yx {p:Addr->Prop}{H:Hp}:zu (sub p H) H:=λ_ _ e=>(zb e).2
theorem zZ.snoc {n:Nat}{ds:List PyData}{d:PyData}(h:zZ n ds)(hd:zY n d)(a:d.depth<=7):zZ n (ds++[d]):=
 ⟨λe he=>(z05.mp he).elim (h.all e) λz=>by rw[zZ1.mp z];exact hd,λe he=>(z05.mp he).elim (h.dep e) λz=>by rw[zZ1.mp z];exact a⟩
theorem zZ.nil {n:Nat}:zZ n []:=⟨λd hd=>by simp at hd,λd hd=>by simp at hd⟩
theorem zZ.two {n:Nat}{d e:PyData}(hd:zY n d)(he:zY n e)(a:d.depth<=7)(b:e.depth<=7):zZ n [d,e]:=(zZ.nil.snoc hd a).snoc he b
section
variable {X:Cx}{e:Expr}{es:List Expr}
def uz (X:Cx)(e:Expr):TE:=λσ H Q=>∃t,PE X e t/\t σ H Q
theorem zf :PE X e (uz X e):=λpins s σ H Q I a=>by obtain⟨t,p,q⟩:=a;exact p pins s σ H Q I q
def zQ4 (X:Cx)(e:Expr):TT:=λσ H Q=>∃t,PT X e t/\t σ H Q
theorem xm :PT X e (zQ4 X e):=λpins s σ H Q I a=>by obtain⟨t,p,q⟩:=a;exact p pins s σ H Q I q
def zF4 (X:Cx)(es:List Expr):TA:=λσ H Q=>∃t,PA X es t/\t σ H Q
theorem yt :PA X es (zF4 X es):=λpos pins s σ H Q I a=>by obtain⟨t,p,q⟩:=a;exact p pos pins s σ H Q I q
end
def yX :Key->PyData
 |.inl i=>.int i
 |.inr x=>.str x
def xcO (a C:Addr)(d:Option Addr):HO:=.ext λh=>∃o vs,h.get? a=some o/\o.cls=.ref C/\o.dict=d/\o.data=.fields vs
mutual
inductive AV (H:Hp):V->PyData->Prop where
 |non:AV H .non .none
 |bl (b:Bool):AV H (.bl b) (.bool b)
 |int (i:Int):AV H (.int i) (.int i)
 |str (x:Str):AV H (.str x) (.str x)
 |lst {a:Addr}{xs:List V}{ds:List PyData}:H a=some (.lst xs)->AVs H xs ds->AV H (.ref a) (.list ds)
 |tup {a:Addr}{xs:List V}{ds:List PyData}:H a=some (.tup xs)->AVs H xs ds->AV H (.ref a) (.tuple ds)
 |ins {a C dx:Addr}{fs:List (Str×V)}{ds:List (PyData×PyData)}:H a=some (.ins C dx fs)->AVf H fs ds->AV H (.ref a) (.dict ((.int (C:Nat),.none)::ds))
 |dk {a:Addr}{o:Obj}{kvs:List (Key×V)}{ds:List (PyData×PyData)}:H a=some (.frz o (.dK kvs))->AVk H kvs ds->AV H (.ref a) (.dict ((.none,.none)::ds))
 |dt {a:Addr}{o:Obj}{kvs:List (List Key×V)}{ds:List (PyData×PyData)}:H a=some (.frz o (.dT kvs))->AVt H kvs ds->AV H (.ref a) (.dict ((.none,.bool true)::ds))
 |xc {a C dx:Addr}{fs:List (Str×V)}{ds:List (PyData×PyData)}:H a=some (xcO a C (some dx))->H dx=some (.xd fs)->AVf H fs ds->AV H (.ref a) (.dict ((.int (C:Nat),.bool true)::ds))
 |xn {a C:Addr}:H a=some (xcO a C none)->AV H (.ref a) (.dict [(.int (C:Nat),.bool false)])
inductive AVs (H:Hp):List V->List PyData->Prop where
 |nil:AVs H [] []
 |cons {x:V}{xs:List V}{d:PyData}{ds:List PyData}:AV H x d->AVs H xs ds->AVs H (x::xs) (d::ds)
inductive AVf (H:Hp):List (Str×V)->List (PyData×PyData)->Prop where
 |nil:AVf H [] []
 |cons {f:Str}{x:V}{fs:List (Str×V)}{d:PyData}{ds:List (PyData×PyData)}:AV H x d->AVf H fs ds->AVf H ((f,x)::fs) ((.str f,d)::ds)
inductive AVk (H:Hp):List (Key×V)->List (PyData×PyData)->Prop where
 |nil:AVk H [] []
 |cons {k:Key}{x:V}{fs:List (Key×V)}{d:PyData}{ds:List (PyData×PyData)}:AV H x d->AVk H fs ds->AVk H ((k,x)::fs) ((yX k,d)::ds)
inductive AVt (H:Hp):List (List Key×V)->List (PyData×PyData)->Prop where
 |nil:AVt H [] []
 |cons {k:List Key}{x:V}{fs:List (List Key×V)}{d:PyData}{ds:List (PyData×PyData)}:AV H x d->AVt H fs ds->AVt H ((k,x)::fs) ((.tuple (k.map yX),d)::ds)
end
theorem fv {H:Hp}{m1:V->PyData->Prop}{m2:List V->List PyData->Prop}{m3:List (Str×V)->List (PyData×PyData)->Prop}{m4:List (Key×V)->List (PyData×PyData)->Prop}{m5:List (List Key×V)->List (PyData×PyData)->Prop}
  (p:m1 .non .none) (v:∀b,m1 (.bl b) (.bool b)) (j:∀i,m1 (.int i) (.int i)) (g:∀x,m1 (.str x) (.str x))
  (S:∀{a xs ds},H a=some (.lst xs)->m2 xs ds->m1 (.ref a) (.list ds)) (Q:∀{a xs ds},H a=some (.tup xs)->m2 xs ds->m1 (.ref a) (.tuple ds))
  (P:∀{a C dx fs ds},H a=some (.ins C dx fs)->m3 fs ds->m1 (.ref a) (.dict ((.int (C:Nat),.none)::ds))) (O:∀{a o kvs ds},H a=some (.frz o (.dK kvs))->m4 kvs ds->m1 (.ref a) (.dict ((.none,.none)::ds)))
  (M:∀{a o kvs ds},H a=some (.frz o (.dT kvs))->m5 kvs ds->m1 (.ref a) (.dict ((.none,.bool true)::ds))) (L:∀{a C dx fs ds},H a=some (xcO a C (some dx))->H dx=some (.xd fs)->m3 fs ds->m1 (.ref a) (.dict ((.int (C:Nat),.bool true)::ds)))
  (c:∀{a C},H a=some (xcO a C none)->m1 (.ref a) (.dict [(.int (C:Nat),.bool false)]))
  (r:m2 [] []) (k2:∀{x xs d ds},m1 x d->m2 xs ds->m2 (x::xs) (d::ds)) (t:m3 [] []) (k3:∀{f x fs d ds},m1 x d->m3 fs ds->m3 ((f,x)::fs) ((.str f,d)::ds))
  (K:m4 [] []) (N:∀{k x fs d ds},m1 x d->m4 fs ds->m4 ((k,x)::fs) ((yX k,d)::ds)) (B:m5 [] []) (k5:∀{k x fs d ds},m1 x d->m5 fs ds->m5 ((k,x)::fs) ((.tuple (k.map yX),d)::ds)):
  (∀x d,AV H x d->m1 x d)/\(∀x d,AVs H x d->m2 x d)/\(∀x d,AVf H x d->m3 x d)/\(∀x d,AVk H x d->m4 x d)/\∀x d,AVt H x d->m5 x d:=by
 have A:=λ{a} {xs} {ds} (q:H a=some (.lst xs)) (_:AVs H xs ds) (z:m2 xs ds)=>S q z;have n:=λ{a} {xs} {ds} (q:H a=some (.tup xs)) (_:AVs H xs ds) (z:m2 xs ds)=>Q q z;have I:=λ{a C dx} {fs} {ds} (q:H a=some (.ins C dx fs)) (_:AVf H fs ds) (z:m3 fs ds)=>P q z;have s:=λ{a o} {fs} {ds} (q:H a=some (.frz o (.dK fs))) (_:AVk H fs ds) (z:m4 fs ds)=>O q z;have l:=λ{a o} {fs} {ds} (q:H a=some (.frz o (.dT fs))) (_:AVt H fs ds) (z:m5 fs ds)=>M q z;have e:=λ{a C dx} {fs} {ds} (q:H a=some (xcO a C (some dx))) (R:H dx=some (.xd fs)) (_:AVf H fs ds) (z:m3 fs ds)=>L q R z;have D:=λ{x} {xs} {d} {ds} (_:AV H x d) (_:AVs H xs ds) (y:m1 x d) (z:m2 xs ds)=>k2 y z;have F:=λ{f} {x} {fs} {d} {ds} (_:AV H x d) (_:AVf H fs ds) (y:m1 x d) (z:m3 fs ds)=>k3 (f:=f) y z;have m:=λ{k} {x} {fs} {d} {ds} (_:AV H x d) (_:AVk H fs ds) (y:m1 x d) (z:m4 fs ds)=>N (k:=k) y z;have w:=λ{k} {x} {fs} {d} {ds} (_:AV H x d) (_:AVt H fs ds) (y:m1 x d) (z:m5 fs ds)=>k5 (k:=k) y z
 let J:=λx d (_:AV H x d)=>m1 x d
 let M2:=λx d (_:AVs H x d)=>m2 x d
 let E:=λx d (_:AVf H x d)=>m3 x d
 let G:=λx d (_:AVk H x d)=>m4 x d
 let u:=λx d (_:AVt H x d)=>m5 x d
 exact⟨λ_ _ h=>@AV.rec H J M2 E G u p v j g A n I s l e c r D t F K m B w _ _ h,λ_ _ h=>@AVs.rec H J M2 E G u p v j g A n I s l e c r D t F K m B w _ _ h,λ_ _ h=>@AVf.rec H J M2 E G u p v j g A n I s l e c r D t F K m B w _ _ h,λ_ _ h=>@AVk.rec H J M2 E G u p v j g A n I s l e c r D t F K m B w _ _ h,λ_ _ h=>@AVt.rec H J M2 E G u p v j g A n I s l e c r D t F K m B w _ _ h⟩
theorem AVs.ind {H:Hp}{motive:(xs:List V)->(ds:List PyData)->AVs H xs ds->Prop}(nil:motive [] [] .nil)(cons:∀{x:V}{xs:List V}{d:PyData}{ds:List PyData} (a:AV H x d) (r:AVs H xs ds),motive xs ds r->motive (x::xs) (d::ds) (.cons a r)){xs:List V}{ds:List PyData}(h:AVs H xs ds):motive xs ds h:=
 ((fv (m1:=AV H) (m2:=λxs ds=>∃h:AVs H xs ds,motive xs ds h) (m3:=AVf H) (m4:=AVk H) (m5:=AVt H) .non .bl .int .str (λq z=>.lst q z.1) (λq z=>.tup q z.1) .ins .dk .dt .xc .xn ⟨.nil,nil⟩ (λa z=>⟨.cons a z.1,cons a z.1 z.2⟩) .nil .cons .nil .cons .nil .cons).2.1 _ _ h).2
theorem AVf.ind {H:Hp}{motive:(xs:List (Str×V))->(ds:List (PyData×PyData))->AVf H xs ds->Prop}(nil:motive [] [] .nil)(cons:∀{f:Str}{x:V}{fs:List (Str×V)}{d:PyData}{ds:List (PyData×PyData)} (a:AV H x d) (r:AVf H fs ds),motive fs ds r->motive ((f,x)::fs) ((.str f,d)::ds) (.cons a r)){xs:List (Str×V)}{ds:List (PyData×PyData)}(h:AVf H xs ds):motive xs ds h:=
 ((fv (m1:=AV H) (m2:=AVs H) (m3:=λxs ds=>∃h:AVf H xs ds,motive xs ds h) (m4:=AVk H) (m5:=AVt H) .non .bl .int .str .lst .tup (λq z=>.ins q z.1) .dk .dt (λq s z=>.xc q s z.1) .xn .nil .cons ⟨.nil,nil⟩ (λa z=>⟨.cons a z.1,cons a z.1 z.2⟩) .nil .cons .nil .cons).2.2.1 _ _ h).2
theorem AVk.ind {H:Hp}{motive:(xs:List (Key×V))->(ds:List (PyData×PyData))->AVk H xs ds->Prop}(nil:motive [] [] .nil)(cons:∀{k:Key}{x:V}{fs:List (Key×V)}{d:PyData}{ds:List (PyData×PyData)} (a:AV H x d) (r:AVk H fs ds),motive fs ds r->motive ((k,x)::fs) ((yX k,d)::ds) (.cons a r)){xs:List (Key×V)}{ds:List (PyData×PyData)}(h:AVk H xs ds):motive xs ds h:=
 ((fv (m1:=AV H) (m2:=AVs H) (m3:=AVf H) (m4:=λxs ds=>∃h:AVk H xs ds,motive xs ds h) (m5:=AVt H) .non .bl .int .str .lst .tup .ins (λq z=>.dk q z.1) .dt .xc .xn .nil .cons .nil .cons ⟨.nil,nil⟩ (λa z=>⟨.cons a z.1,cons a z.1 z.2⟩) .nil .cons).2.2.2.1 _ _ h).2
theorem iy {H H':Hp}(e:zu H H'):(∀x d,AV H x d->AV H' x d)/\(∀x d,AVs H x d->AVs H' x d)/\(∀x d,AVf H x d->AVf H' x d)/\(∀x d,AVk H x d->AVk H' x d)/\∀x d,AVt H x d->AVt H' x d:=by refine fv (m1:=λx d=>AV H' x d) (m2:=λx d=>AVs H' x d) (m3:=λx d=>AVf H' x d) (m4:=λx d=>AVk H' x d) (m5:=λx d=>AVt H' x d) .non .bl .int .str (λhq a=>.lst (e _ _ hq) a) (λhq a=>.tup (e _ _ hq) a) (λhq a=>.ins (e _ _ hq) a) (λhq a=>.dk (e _ _ hq) a) (λhq a=>.dt (e _ _ hq) a) (λhq hd a=>.xc (e _ _ hq) (e _ _ hd) a) (λhq=>.xn (e _ _ hq)) .nil .cons .nil .cons .nil .cons .nil .cons
theorem AV.same {H H':Hp}(e:zu H H'){x:V}{d:PyData}(h:AV H x d):AV H' x d:=(iy e).1 _ _ h
theorem AVs.same {H H':Hp}(e:zu H H'){xs:List V}{ds:List PyData}(h:AVs H xs ds):AVs H' xs ds:=(iy e).2.1 _ _ h
theorem AVk.same {H H':Hp}(e:zu H H'){fs:List (Key×V)}{ds:List (PyData×PyData)}(h:AVk H fs ds):AVk H' fs ds:=(iy e).2.2.2.1 _ _ h
theorem AVt.same {H H':Hp}(e:zu H H'){fs:List (List Key×V)}{ds:List (PyData×PyData)}(h:AVt H fs ds):AVt H' fs ds:=(iy e).2.2.2.2 _ _ h
theorem dv5 {H:Hp}:(∀x d,AV H x d->d.hasDict=false->DV H x d)/\(∀x d,AVs H x d->PyData.hasDictAll d=false->DVs H x d):=by
 have r:=fv (H:=H) (m1:=λx d=>d.hasDict=false->DV H x d) (m2:=λx d=>PyData.hasDictAll d=false->DVs H x d) (m3:=λ_ _=>True) (m4:=λ_ _=>True) (m5:=λ_ _=>True) (λ_=>.non) (λb _=>.bl b) (λi _=>.int i) (λx _=>.str x) (λhq a h=>.lst hq (a (by simpa only[PyData.hasDict]using h))) (λhq a h=>.tup hq (a (by simpa only[PyData.hasDict]using h))) (λ_ _ h=>by simp[PyData.hasDict]at h) (λ_ _ h=>by simp[PyData.hasDict]at h) (λ_ _ h=>by simp[PyData.hasDict]at h) (λ_ _ _ h=>by simp[PyData.hasDict]at h) (λ_ h=>by simp[PyData.hasDict]at h) (λ_=>.nil)
  (λh a e=>by
   simp only[PyData.hasDictAll,yc4]at e;exact .cons (h e.1) (a e.2)) trivial (λ_ _=>trivial) trivial (λ_ _=>trivial) trivial (λ_ _=>trivial)
 exact⟨r.1,r.2.1⟩
theorem AV.dv {H:Hp}{x:V}{d:PyData}(h:AV H x d)(e:d.hasDict=false):DV H x d:=dv5.1 _ _ h e
theorem AVs.dv {H:Hp}{xs:List V}{ds:List PyData}(h:AVs H xs ds)(e:PyData.hasDictAll ds=false):DVs H xs ds:=dv5.2 _ _ h e
theorem AVs.length {H:Hp}{xs:List V}{ds:List PyData}(h:AVs H xs ds):xs.length=ds.length:=h.ind (motive:=λxs ds _=>xs.length=ds.length) rfl λ_ _ z=>congrArg (·+1) z
theorem AVs.append {H:Hp}{xs ys:List V}{ds b:List PyData}(h:AVs H xs ds)(k:AVs H ys b):AVs H (xs++ys) (ds++b):=h.ind (motive:=λxs ds _=>AVs H (xs++ys) (ds++b)) k λa _ z=>.cons a z
theorem AVs.get {H:Hp}{xs:List V}{ds:List PyData}{i:Nat}{d:PyData}(h:AVs H xs ds)(e:ds[i]?=some d):∃x,xs[i]?=some x/\AV H x d:=by
 induction h using AVs.ind generalizing i with
 |nil=>simp at e
 |cons a _ b=>
  cases i with
  |zero=>exact⟨_,rfl,z09 e▸a⟩
  |succ i=>exact b (i:=i) e
theorem AVs.take {H:Hp}{xs:List V}{ds:List PyData}(n:Nat)(h:AVs H xs ds):AVs H (xs.take n) (ds.take n):=by
 induction h using AVs.ind generalizing n with
 |nil=>cases n<;>exact .nil
 |cons a _ b=>
  cases n with
  |zero=>exact .nil
  |succ n=>exact .cons a (b n)
theorem AVs.drop {H:Hp}{xs:List V}{ds:List PyData}(n:Nat)(h:AVs H xs ds):AVs H (xs.drop n) (ds.drop n):=by
 induction h using AVs.ind generalizing n with
 |nil=>cases n<;>exact .nil
 |cons a r b=>
  cases n with
  |zero=>exact .cons a r
  |succ n=>exact b n
theorem AVs.set {H:Hp}{x:V}{d:PyData}(a:AV H x d){xs:List V}{ds:List PyData}(i:Nat)(h:AVs H xs ds):AVs H (xs.set i x) (ds.set i d):=by
 induction h using AVs.ind generalizing i with
 |nil=>exact .nil
 |cons q r b=>
  cases i with
  |zero=>exact .cons a r
  |succ i=>exact .cons q (b i)
theorem AVs.atI {H:Hp}{xs:List V}{ds:List PyData}{i:Int}{d:PyData}(h:AVs H xs ds)(e:atI ds i=some d):∃x,L2.atI xs i=some x/\AV H x d:=by
 unfold L2.atI at e ⊢;rw[h.length];cases q:ixN ds.length i with
 |none=>rw[q]at e;cases e
 |some j=>
  rw[q]at e;exact h.get (i:=j) e
def cutD (ds:List PyData)(lo hi:Option Int):List PyData:=(ds.drop (HT.sIx ds.length 0 lo)).take (HT.sIx ds.length ds.length hi-HT.sIx ds.length 0 lo)
theorem AVs.cut {H:Hp}{xs:List V}{ds:List PyData}(h:AVs H xs ds)(lo hi:Option Int):AVs H (nG xs lo hi) (cutD ds lo hi):=by
 unfold nG cutD;rw[h.length];exact(h.drop _).take _
mutual
def noL :PyData->Bool
 |.list _=>false
 |.dict ((.none,_)::_)=>false
 |.dict kvs=>sE kvs
 |.tuple ds=>wm ds
 |_=>true
def wm :List PyData->Bool
 |[]=>true
 |d::r=>noL d&&wm r
def sE :List (PyData×PyData)->Bool
 |[]=>true
 |(_,d)::r=>noL d&&sE r
end
def Ob :HO->Prop
 |.lst _=>True
 |.dK _=>True
 |.frz _ _=>True
 |_=>False
theorem zM8 {H H':Hp}(e:∀a o,¬Ob o->H a=some o->H' a=some o):(∀x d,AV H x d->noL d=true->AV H' x d)/\(∀x d,AVs H x d->wm d=true->AVs H' x d)/\(∀x d,AVf H x d->sE d=true->AVf H' x d)/\(∀x d,AVk H x d->sE d=true->AVk H' x d):=by
 have r:=fv (H:=H) (m1:=λx d=>noL d=true->AV H' x d) (m2:=λx d=>wm d=true->AVs H' x d) (m3:=λx d=>sE d=true->AVf H' x d) (m4:=λx d=>sE d=true->AVk H' x d) (m5:=λ_ _=>True) (λ_=>.non) (λb _=>.bl b) (λi _=>.int i) (λx _=>.str x) (λ_ _ h=>by simp[L2.noL]at h) (λhq c h=>.tup (e _ _ (λz=>z) hq) (c (by simpa only[L2.noL]using h))) (λhq c h=>.ins (e _ _ (λz=>z) hq) (c (by simpa[L2.noL,L2.sE]using h))) (λ_ _ h=>by simp[L2.noL]at h) (λ_ _ h=>by simp[L2.noL]at h) (λhq hd c h=>.xc (e _ _ (λz=>z) hq) (e _ _ (λz=>z) hd) (c (by simpa[L2.noL,L2.sE]using h))) (λhq _=>.xn (e _ _ (λz=>z) hq)) (λ_=>.nil)
  (λh c q=>by
   simp only[L2.wm,z07]at q;exact .cons (h q.1) (c q.2)) (λ_=>.nil)
  (λh c q=>by
   simp only[L2.sE,z07]at q;exact .cons (h q.1) (c q.2)) (λ_=>.nil)
  (λh c q=>by
   simp only[L2.sE,z07]at q;exact .cons (h q.1) (c q.2)) trivial (λ_ _=>trivial)
 exact⟨r.1,r.2.1,r.2.2.1,r.2.2.2.1⟩
theorem AV.noL {H H':Hp}(e:∀a o,¬Ob o->H a=some o->H' a=some o){x:V}{d:PyData}(h:AV H x d)(q:L2.noL d=true):AV H' x d:=(zM8 e).1 _ _ h q
theorem AVs.noL {H H':Hp}(e:∀a o,¬Ob o->H a=some o->H' a=some o){xs:List V}{ds:List PyData}(h:AVs H xs ds)(q:wm ds=true):AVs H' xs ds:=(zM8 e).2.1 _ _ h q
structure Fr where
 H0:Hp
 O0:Addr->Prop
 tp:Option (Addr×Addr×Addr)
inductive A where
 |dat (d:PyData)
 |ow (c:PyData)
 |deep (d:PyData) (S:Addr->Prop)
 |tape
 |at(l:Addr)
 |exc (r:Fr) (q:PyData->Prop)
 |pin (l:Addr) (vs:List V) (ds:List PyData)
 |nst (l:Addr) (ls:List Addr) (dss:List (List PyData))
@[reducible] def A.own (ds:List PyData):A:=.ow (.list ds)
abbrev yT (ds:List (PyData×PyData)):PyData:=.dict ((.none,.none)::ds)
@[reducible] def A.dic (ds:List (PyData×PyData)):A:=.ow (yT ds)
abbrev Ev :=List (Option A)
def wb (o:HO):Prop:=∀ts,o≠.tup ts
theorem wu {xs:List V}:wb (.lst xs):=λ_ z=>by cases z
theorem Ob.notup {o:HO}(h:Ob o):wb o:=λts z=>by subst z;exact h
def NT (F:Fr)(x:Addr):Prop:=(∀t b c,F.tp=some (t,b,c)->x≠t/\x≠b)/\¬tH x
def Kz (F:Fr)(H H':Hp):Prop:=∀x o,H x=some o->NT F x->H' x=some o
structure zA (F:Fr)(H:Hp):Prop where
 tab:TabAt H
 ot:∀x,tH x->F.O0 x
 all:∀t b c,F.tp=some (t,b,c)->yN H t b c/\F.O0 t/\F.O0 b/\F.O0 c
instance {F:Fr} {H:Hp}:CoeFun (zA F H) (λ_=>∀t b c,F.tp=some (t,b,c)->yN H t b c/\F.O0 t/\F.O0 b/\F.O0 c):=⟨zA.all⟩
theorem zA.to {F F':Fr}{H:Hp}(t:zA F H)(i:F'.tp=F.tp)(d:∀x,F.O0 x->F'.O0 x):zA F' H:=⟨t.tab,λx h=>d x (t.ot x h),λa b c e=>by
 obtain⟨g,j,f,k⟩:=t a b c (i▸e);exact⟨g,d _ j,d _ f,d _ k⟩⟩
theorem zA.re {F F':Fr}{H H':Hp}(t:zA F H)(t':zA F' H')(d:F'.tp=F.tp):zA F H':=⟨t'.tab,t.ot,λa b c e=>⟨(t' a b c (d▸e)).1,(t a b c e).2⟩⟩
theorem zA.upd {F:Fr}{H:Hp}{l:Addr}{o:HO}(t:zA F H)(h:∀a b c,F.tp=some (a,b,c)->l≠a/\l≠b/\l≠c)(d:Plain H l):zA F (upd H l o):=⟨zg8 t.tab d,t.ot,λa b c e=>⟨aA (t a b c e).1 (h a b c e),(t a b c e).2⟩⟩
theorem zA.updO {F:Fr}{H:Hp}{l:Addr}{o:HO}(t:zA F H)(h:¬F.O0 l)(d:Plain H l):zA F (L2.upd H l o):=t.upd (λa b c e=>⟨λz=>h (by rw[z];exact(t a b c e).2.1),λz=>h (by rw[z];exact(t a b c e).2.2.1),λz=>h (by rw[z];exact(t a b c e).2.2.2)⟩) d
def foot (s:Option V):A->Addr->Prop
 |.ow _,x=>s=some (.ref x)
 |.deep _ S,x=>S x
 |.nst l ls _,x=>x∈l::ls
 |_,_=>False
def Ow (F:Fr)(α:Ev)(σ:St)(x:Addr):Prop:=F.O0 x\/∃(i:Nat) (a:A) (s:Option V),α[i]?=some (some a)/\σ[i]?=some s/\foot s a x
noncomputable abbrev Gz (F:Fr)(α:Ev)(σ:St)(H:Hp):Hp:=sub (λx=>¬Ow F α σ x) H
noncomputable def uW (S:Addr->Prop)(G H:Hp):Hp:=λx=>open Classical in if S x then H x else match G x with
 |some (.lst _)=>none
 |o=>o
theorem vE {S:Addr->Prop}{G a H H':Hp}(h:zu G a)(b:∀x o,S x->H x=some o->H' x=some o):zu (uW S G H) (uW S a H'):=λx o e=>by
 unfold uW at e ⊢;by_cases z:S x
 ·rw[if_pos z]at e ⊢;exact b x o z e
 ·rw[if_neg z]at e ⊢;cases q:G x with
  |none=>rw[q]at e;cases e
  |some u=>
   rw[h _ _ q];rw[q]at e;exact e
theorem lA {S:Addr->Prop}{G H:Hp}{x:Addr}{o:HO}(h:uW S G H x=some o):(S x/\H x=some o)\/(¬S x/\G x=some o):=by
 unfold uW at h;by_cases z:S x
 ·rw[if_pos z]at h;exact .inl ⟨z,h⟩
 ·rw[if_neg z]at h;split at h
  ·cases h
  ·exact .inr ⟨z,h⟩
inductive yE (G:Hp):HO->PyData->Prop where
 |lst {xs:List V}{ds:List PyData}:AVs G xs ds->yE G (.lst xs) (.list ds)
 |dk {kvs:List (Key×V)}{ds:List (PyData×PyData)}:AVk G kvs ds->yE G (.dK kvs) (yT ds)
theorem yE.ob {G:Hp}{o:HO}{c:PyData}(h:yE G o c):Ob o:=by cases h<;>trivial
theorem yE.same {G a:Hp}{o:HO}{c:PyData}(h:yE G o c)(s:zu G a):yE a o c:=by
 cases h with
 |lst h=>exact .lst (h.same s)
 |dk h=>exact .dk (h.same s)
theorem yE.av {G:Hp}{o:HO}{ds:List PyData}{l:Addr}(h:yE G o (.list ds))(e:G l=some o):AV G (.ref l) (.list ds):=by
 cases h with
 |lst h=>exact .lst e h
theorem yE.lst_inv {G:Hp}{o:HO}{ds:List PyData}(h:yE G o (.list ds)):∃xs,o=.lst xs/\AVs G xs ds:=by cases h;exact⟨_,rfl,by assumption⟩
theorem yE.dk_inv {G:Hp}{o:HO}{ds:List (PyData×PyData)}(h:yE G o (yT ds)):∃xs,o=.dK xs/\AVk G xs ds:=by cases h;exact⟨_,rfl,by assumption⟩
theorem yE.plain {G H:Hp}{o:HO}{c:PyData}{l:Addr}(h:yE G o c)(e:H l=some o):Plain H l:=by
 cases h with
 |lst h=>exact qY e
 |dk h=>exact qf e
structure Lnk (r F:Fr)(H:Hp):Prop where
 tp:r.tp=F.tp
 o:∀x,r.O0 x->F.O0 x
 ok:zA r H
 k:Kz r r.H0 H
def wa (G H:Hp):List Addr->List (List PyData)->Prop
 |[],[]=>True
 |a::ls,ds::dss=>(∃xs,H a=some (.lst xs)/\AVs G xs ds)/\wa G H ls dss
 |_,_=>False
theorem wa.same {G c H H':Hp}(g:zu G c):∀{ls:List Addr}{dss:List (List PyData)},(∀a∈ls,∀o,H a=some o->H' a=some o)->wa G H ls dss->wa c H' ls dss
 |[],[],_,_=>trivial
 |a::ls,ds::dss,h,⟨⟨xs,e,av⟩,r⟩=>⟨⟨xs,h a zY9 _ e,av.same g⟩,wa.same g (λb hb=>h b (zY5 _ hb)) r⟩
 |[],_::_,_,z=>z.elim
 |_::_,[],_,z=>z.elim
theorem wa.obj {G H:Hp}:∀{ls:List Addr}{dss:List (List PyData)},wa G H ls dss->∀a∈ls,∃xs,H a=some (.lst xs)
 |[],_,_,_,h=>by cases h
 |b::ls,ds::dss,⟨⟨xs,e,_⟩,r⟩,a,h=>by
  rcases zY2.mp h with z|z
  ·exact⟨xs,z▸e⟩
  ·exact wa.obj r a z
 |_::_,[],z,_,_=>z.elim
theorem wa.avs {G H:Hp}{p:Addr->Prop}(g:zu G (sub p H)):∀{ls:List Addr}{dss:List (List PyData)},(∀a∈ls,p a)->wa G H ls dss->AVs (sub p H) (ls.map .ref) (dss.map .list)
 |[],[],_,_=>.nil
 |a::ls,ds::dss,h,⟨⟨xs,e,av⟩,r⟩=>.cons (.lst (zt (h a zY9) e) (av.same g)) (wa.avs g (λb hb=>h b (zY5 _ hb)) r)
 |[],_::_,_,z=>z.elim
 |_::_,[],_,z=>z.elim
def xx (G:Hp)(F:Fr)(H:Hp)(s:Option V):A->Prop
 |.dat d=>∃v,s=some v/\AV G v d
 |.ow c=>∃l o,s=some (.ref l)/\H l=some o/\yE G o c/\¬F.O0 l/\F.H0 l=none
 |.deep d S=>∃v,s=some v/\AV (uW S G H) v d/\∀x,S x->¬F.O0 x/\F.H0 x=none/\∃xs,H x=some (.lst xs)
 |.tape=>∃t b c,F.tp=some (t,b,c)/\s=some (.ref t)
 |.at l=>s=some (.ref l)
 |.exc r _=>Lnk r F H
 |.pin l vs ds=>s=some (.ref l)/\G l=some (.lst vs)/\AVs G vs ds
 |.nst l ls dss=>s=some (.ref l)/\H l=some (.lst (ls.map .ref))/\wa G H ls dss/\(l::ls).Nodup/\∀x∈l::ls,¬F.O0 x/\F.H0 x=none
structure M (F:Fr)(α:Ev)(σ:St)(H:Hp):Prop where
 len:α.length=σ.length
 ok:∀(i:Nat) (a:A) (s:Option V),α[i]?=some (some a)->σ[i]?=some s->xx (Gz F α σ H) F H s a
 dj:∀(i j:Nat) (a b:A) (s t:Option V) (x:Addr),α[i]?=some (some a)->α[j]?=some (some b)->σ[i]?=some s->σ[j]?=some t->foot s a x->foot t b x->i=j
 xd:∀(i:Nat) (r:Fr) (q:PyData->Prop),α[i]?=some (some (.exc r q))->∀(j:Nat) (a:A) (s:Option V) (x:Addr),α[j]?=some (some a)->σ[j]?=some s->foot s a x->r.H0 x=none
 tp:zA F H
 keep:Kz F F.H0 H
 oex:∀x,F.O0 x->∃o,H x=some o/\wb o
theorem M.at' {F:Fr}{α:Ev}{σ:St}{H:Hp}(m:M F α σ H){i:Nat}{a:Option A}(e:α[i]?=some a):∃s,σ[i]?=some s:=by
 have:i<σ.length:=by rw[<-m.len];exact(zY0.mp e).1
 exact⟨_,zY1 this⟩
theorem tY {G:Hp}{F:Fr}{H:Hp}{s:Option V}{a:A}{x:Addr}(h:xx G F H s a)(f:foot s a x):¬F.O0 x/\F.H0 x=none/\∃o,H x=some o/\Ob o:=by
 cases a with
 |ow c=>
  obtain⟨l,o,i,j,b,m,k⟩:=h;have g:s=some (.ref x):=f;rw[g]at i;cases i;exact⟨m,k,o,j,b.ob⟩
 |deep d S=>
  obtain⟨v,i,j,b⟩:=h;obtain⟨n,p,xs,z3⟩:=b x f;exact⟨n,p,_,z3,trivial⟩
 |dat d=>exact f.elim
 |tape=>exact f.elim
 |«at» l=>exact f.elim
 |exc r q=>exact f.elim
 |pin l vs ds=>exact f.elim
 |nst l ls dss=>
  obtain⟨i,j,b,m,k⟩:=h;have g:x∈l::ls:=f;refine⟨(k x g).1,(k x g).2,?_⟩;rcases zY2.mp g with z|z
  ·exact⟨.lst (ls.map .ref),z▸j,trivial⟩
  ·obtain⟨xs,e⟩:=b.obj x z;exact⟨.lst xs,e,trivial⟩
theorem Lnk.kz {r F:Fr}{H H':Hp}(l:Lnk r F H)(k:Kz F H H')(t:zA F H'):Lnk r F H':=⟨l.tp,l.o,l.ok.re t l.tp.symm,λx o e n=>k x o (l.k x o e n) ⟨λa b c z=>n.1 a b c (l.tp.trans z),n.2⟩⟩
theorem Lnk.none {r F:Fr}{H:Hp}(l:Lnk r F H){x:Addr}(h:H x=Option.none):r.H0 x=Option.none:=by
 cases q:r.H0 x with
 |none=>rfl
 |some o=>rw[l.k x o q ⟨λa b c e=>⟨((l.ok a b c e).1.free h).1,((l.ok a b c e).1.free h).2.1⟩,uE l.ok.tab h⟩]at h;cases h
def noX :A->Prop
 |.exc _ _=>False
 |_=>True
theorem xx.stay {G p:Hp}{F F':Fr}{H H':Hp}{s:Option V}{a:A}(h:xx G F H s a)(g:zu G p)(hf:∀x o,foot s a x->H x=some o->H' x=some o/\¬F'.O0 x/\F'.H0 x=none)(w:F'.tp=F.tp)(y:∀r q,a=.exc r q->Lnk r F H->Lnk r F' H'):xx p F' H' s a:=by
 cases a with
 |dat d=>obtain⟨v,f,i⟩:=h;exact⟨v,f,i.same g⟩
 |ow c=>
  obtain⟨l,o,f,i,j,u,B⟩:=h;obtain⟨m,n,z3⟩:=hf l o f i;exact⟨l,o,f,m,j.same g,n,z3⟩
 |deep d S=>
  obtain⟨v,f,i,j⟩:=h;refine⟨v,f,i.same (vE g λx o z e=>(hf x o z e).1),λx z=>?_⟩;obtain⟨_,_,xs,e⟩:=j x z;obtain⟨m,n,z3⟩:=hf x _ z e;exact⟨n,z3,xs,m⟩
 |tape=>obtain⟨t,b,c,e,z⟩:=h;exact⟨t,b,c,w.trans e,z⟩
 |«at» l=>exact h
 |exc r q=>exact y r q rfl h
 |pin l vs ds=>exact⟨h.1,g _ _ h.2.1,h.2.2.same g⟩
 |nst l ls dss=>
  obtain⟨f,i,j,u,B⟩:=h;refine⟨f,(hf l _ zY9 i).1,j.same g λa ha o e=>(hf a o (zY5 _ ha) e).1,u,λx k=>?_⟩;rcases zY2.mp k with z|z
  ·exact(hf x _ k (z▸i)).2
  ·obtain⟨xs,e⟩:=j.obj x z;exact(hf x _ k e).2
section
variable {F:Fr}{α:Ev}{σ:St}{H H' H'':Hp}
theorem M.dat (m:M F α σ H)(i:Nat)(d:PyData)(e:α[i]?=some (some (.dat d))):∃v,σ[i]?=some (some v)/\AV (Gz F α σ H) v d:=by
 obtain⟨s,a⟩:=m.at' e;obtain⟨v,rfl,h⟩:=m.ok i _ s e a;exact⟨v,a,h⟩
theorem M.owc (m:M F α σ H)(i:Nat)(c:PyData)(e:α[i]?=some (some (.ow c))):∃l o,σ[i]?=some (some (.ref l))/\H l=some o/\yE (Gz F α σ H) o c/\¬F.O0 l/\F.H0 l=none:=by
 obtain⟨s,a⟩:=m.at' e;obtain⟨l,o,rfl,h⟩:=m.ok i _ s e a;exact⟨l,o,a,h⟩
theorem M.own (m:M F α σ H)(i:Nat)(ds:List PyData)(e:α[i]?=some (some (.own ds))):∃l xs,σ[i]?=some (some (.ref l))/\H l=some (.lst xs)/\AVs (Gz F α σ H) xs ds/\¬F.O0 l/\F.H0 l=none:=by
 obtain⟨l,o,b,c,a,d⟩:=m.owc i _ e;obtain⟨xs,rfl,f⟩:=a.lst_inv;exact⟨l,xs,b,c,f,d⟩
theorem M.dic (m:M F α σ H)(i:Nat)(ds:List (PyData×PyData))(e:α[i]?=some (some (.dic ds))):∃l xs,σ[i]?=some (some (.ref l))/\H l=some (.dK xs)/\AVk (Gz F α σ H) xs ds/\¬F.O0 l/\F.H0 l=none:=by
 obtain⟨l,o,b,c,a,d⟩:=m.owc i _ e;obtain⟨xs,rfl,f⟩:=a.dk_inv;exact⟨l,xs,b,c,f,d⟩
theorem M.deep (m:M F α σ H)(i:Nat)(d:PyData)(S:Addr->Prop)(e:α[i]?=some (some (.deep d S))):∃v,σ[i]?=some (some v)/\AV (uW S (Gz F α σ H) H) v d/\∀x,S x->¬F.O0 x/\F.H0 x=none/\∃xs,H x=some (.lst xs):=by
 obtain⟨s,a⟩:=m.at' e;obtain⟨v,rfl,h⟩:=m.ok i _ s e a;exact⟨v,a,h⟩
theorem M.tvar (m:M F α σ H)(i:Nat)(e:α[i]?=some (some .tape)):∃t b c,F.tp=some (t,b,c)/\σ[i]?=some (some (.ref t)):=by
 obtain⟨s,a⟩:=m.at' e;obtain⟨t,b,c,h,rfl⟩:=m.ok i _ s e a;exact⟨t,b,c,h,a⟩
theorem M.lnk (m:M F α σ H){i:Nat}{r:Fr}{q:PyData->Prop}(e:α[i]?=some (some (.exc r q))):Lnk r F H:=by
 obtain⟨s,a⟩:=m.at' e;exact m.ok i _ s e a
theorem Kz.refl :Kz F H H:=λ_ _ e _=>e
theorem Kz.trans (h:Kz F H H')(k:Kz F H' H''):Kz F H H'':=λx o e n=>k x o (h x o e n) n
theorem Kz.of_same (h:zu H H'):Kz F H H':=λx o e _=>h x o e
theorem zA.same (t:zA F H)(h:zu H H'):zA F H':=⟨zC1 t.tab h,t.ot,λa b c e=>⟨gX (t a b c e).1 h,(t a b c e).2⟩⟩
theorem zA.nt (t:zA F H){x:Addr}(h:¬F.O0 x):NT F x:=⟨λa b c e=>⟨λz=>h (z▸(t a b c e).2.1),λz=>h (z▸(t a b c e).2.2.1)⟩,λz=>h (t.ot x z)⟩
theorem ow0 {x:Addr}(h:¬Ow F α σ x):¬F.O0 x:=λz=>h (.inl z)
theorem Kz.gz (k:Kz F H H')(t:zA F H):zu (Gz F α σ H) (Gz F α σ H'):=zm λa o h e=>⟨h,k a o e (t.nt (ow0 h))⟩
theorem M.oex' (t:zA F H')(k:Kz F H H')(h:∀x,F.O0 x->∃o,H x=some o/\wb o):∀x,F.O0 x->∃o,H' x=some o/\wb o:=λx i=>by
 by_cases n:NT F x
 ·obtain⟨o,d,hn⟩:=h x i;exact⟨o,k _ _ d n,hn⟩
 ·by_cases z:tH x
  ·obtain⟨o,d,hn,_⟩:=tV t.tab z;exact⟨o,d,hn⟩
  ·have:∃a b c,F.tp=some (a,b,c)/\¬(x≠a/\x≠b):=by
    refine Classical.byContradiction λq=>n ⟨λa b c e=>?_,z⟩;exact Classical.byContradiction λw=>q ⟨a,b,c,e,w⟩
   obtain⟨a,b,c,e,w⟩:=this;obtain⟨n,bs,cs,_,e1,j,l,_⟩:=(t a b c e).1.ex;by_cases g:x=a
   ·exact⟨_,g▸e1,wu⟩
   ·by_cases f:x=b
    ·exact⟨_,f▸j,wu⟩
    ·exact absurd ⟨g,f⟩ w
theorem M.kz (m:M F α σ H)(k:Kz F H H')(t:zA F H'):M F α σ H' where
 len:=m.len
 ok:=λi a s e1 b=>(m.ok i a s e1 b).stay (k.gz m.tp) (λx o hf e=>by
  obtain⟨c,d,_⟩:=tY (m.ok i a s e1 b) hf;exact⟨k x o e (m.tp.nt c),c,d⟩) rfl λr _ _ l=>l.kz k t
 dj:=m.dj
 xd:=m.xd
 tp:=t
 keep:=m.keep.trans k
 oex:=M.oex' t k m.oex
theorem M.ft (m:M F α σ H){i:Nat}{a:A}{s:Option V}{x:Addr}(e1:α[i]?=some (some a))(b:σ[i]?=some s)(f:foot s a x):¬F.O0 x/\F.H0 x=none/\∃o,H x=some o/\Ob o:=tY (m.ok i a s e1 b) f
theorem M.owEx (m:M F α σ H){x:Addr}(h:Ow F α σ x):∃o,H x=some o/\wb o:=by
 rcases h with z|⟨i,a,s,e1,c,f⟩
 ·exact m.oex x z
 ·obtain⟨_,_,o,b,hb⟩:=m.ft e1 c f;exact⟨o,b,hb.notup⟩
theorem M.fresh (m:M F α σ H){l:Addr}(h:H l=none):¬Ow F α σ l:=λz=>by
 obtain⟨o,a,_⟩:=m.owEx z;rw[h]at a;cases a
theorem M.fresh0 (m:M F α σ H){l:Addr}(h:H l=none):F.H0 l=none:=by
 cases q:F.H0 l with
 |none=>rfl
 |some o=>rw[m.keep l o q (m.tp.nt λz=>m.fresh h (.inl z))]at h;cases h
theorem M.old (m:M F α σ H):zu (sub (λx=>¬F.O0 x) F.H0) (Gz F α σ H):=λa o e=>by
 obtain⟨c,d⟩:=zb e;refine zt ?_ (m.keep a o d (m.tp.nt c));rintro(z|⟨i,b,s,e1,g,f⟩)
 ·exact c z
 ·obtain⟨_,z,_⟩:=m.ft e1 g f;rw[d]at z;cases z
noncomputable def Fr.up (F:Fr)(G:Hp):Fr:={F with H0:=λx=>(F.H0 x).or (G x)}
theorem oA {G:Hp}{x:Addr}{o:HO}(h:F.H0 x=some o):(F.up G).H0 x=some o:=by show(F.H0 x).or (G x)=some o;rw[h];rfl
theorem iR {G:Hp}{x:Addr}(h:(F.up G).H0 x=none):F.H0 x=none:=by
 cases q:F.H0 x with
 |none=>rfl
 |some o=>rw[oA q]at h;cases h
theorem M.up (m:M F α σ H):M (F.up (Gz F α σ H)) α σ H where
 len:=m.len
 ok:=λi a s e1 c=>(m.ok i a s e1 c).stay (λ_ _ e=>e) (λx o hf e=>by
  obtain⟨d,f,_⟩:=m.ft e1 c hf;refine⟨e,d,?_⟩;show(F.H0 x).or (Gz F α σ H x)=none;rw[f];show Gz F α σ H x=none;cases q:Gz F α σ H x with
  |none=>rfl
  |some o=>exact absurd (.inr ⟨i,a,s,e1,c,hf⟩) (zb q).1) rfl λr _ _ l=>⟨l.tp,l.o,l.ok,l.k⟩
 dj:=m.dj
 xd:=m.xd
 tp:=m.tp.to rfl λ_ z=>z
 keep:=λx o e n=>by
  have b:(F.H0 x).or (Gz F α σ H x)=some o:=e;cases q:F.H0 x with
  |none=>rw[q,Option.none_or]at b;exact(zb b).2
  |some o'=>rw[q]at b;cases b;exact m.keep x _ q n
 oex:=m.oex
theorem M.down {G:Hp}(m:M (F.up G) α σ H):M F α σ H where
 len:=m.len
 ok:=λi a s e1 b=>(m.ok i a s e1 b).stay (λ_ _ e=>e) (λx o hf e=>by
  obtain⟨d,c,_⟩:=m.ft e1 b hf;exact⟨e,d,iR c⟩) rfl λr _ _ l=>⟨l.tp,l.o,l.ok,l.k⟩
 dj:=m.dj
 xd:=m.xd
 tp:=m.tp.to rfl λ_ z=>z
 keep:=λx o e n=>m.keep x o (oA e) n
 oex:=m.oex
theorem M.upold {α0:Ev}{b:St}{H1:Hp}(m0:M F α0 b H1)(m:M (F.up (Gz F α0 b H1)) α σ H):zu (Gz F α0 b H1) (Gz F α σ H):=λa o e=>by
 obtain⟨c,f⟩:=zb e;have d:(F.up (Gz F α0 b H1)).H0 a=some o:=by
  show(F.H0 a).or (Gz F α0 b H1 a)=some o;cases q:F.H0 a with
  |none=>exact e
  |some o'=>
   have:=m0.keep a o' q (m0.tp.nt (ow0 c));rw[f]at this;cases this;rfl
 exact m.old a o (zt (p:=λx=>¬F.O0 x) (ow0 c) d)
end
def yJ (F:Fr)(α:Ev)(σ:St)(H:Hp)(v:V)(H':Hp)(ds:List PyData):Prop:=
 ∃l xs,v=.ref l/\H l=none/\H' l=some (.lst xs)/\AVs (sub (λx=>¬Ow F α σ x/\x≠l) H') xs ds
def lX (F:Fr)(α:Ev)(σ:St)(H:Hp)(v:V)(H':Hp)(c:PyData):Prop:=
 ∃l o,v=.ref l/\H l=none/\H' l=some o/\yE (sub (λx=>¬Ow F α σ x/\x≠l) H') o c
theorem yJ.c {F:Fr}{α:Ev}{σ:St}{H H':Hp}{v:V}{ds:List PyData}(h:yJ F α σ H v H' ds):lX F α σ H v H' (.list ds):=by
 obtain⟨l,xs,b,d,a,e⟩:=h;exact⟨l,_,b,d,a,.lst e⟩
theorem yJ.av {F:Fr}{α:Ev}{σ:St}{H H':Hp}{v:V}{ds:List PyData}(m:M F α σ H)(h:yJ F α σ H v H' ds):AV (Gz F α σ H') v (.list ds):=by
 obtain⟨l,xs,rfl,b,d,c⟩:=h;exact .lst (zt (m.fresh b) d) (c.same (zm λa o h e=>⟨h.1,e⟩))
section
variable (X:Cx)(α:Ev)
def EvD (e:Expr)(Q:PyData->Prop):Prop:=∀(F:Fr) (σ:St) (H:Hp) (R:VK),M F α σ H->(∀d v H',Q d->zA F H'->Kz F H H'->AV (Gz F α σ H') v d->R v H')->uz X e σ H R
def EvL (e:Expr)(Q:List PyData->Prop):Prop:=∀(F:Fr) (σ:St) (H:Hp) (R:VK),M F α σ H->(∀ds v H',Q ds->zA F H'->Kz F H H'->yJ F α σ H v H' ds->R v H')->uz X e σ H R
def EvC (e:Expr)(Q:PyData->Prop):Prop:=∀(F:Fr) (σ:St) (H:Hp) (R:VK),M F α σ H->(∀c v H',Q c->zA F H'->Kz F H H'->lX F α σ H v H' c->R v H')->uz X e σ H R
def EvT (e:Expr)(Q:Bool->Prop):Prop:=∀(F:Fr) (σ:St) (H:Hp) (R:Bool->Hp->Prop),M F α σ H->(∀b H',Q b->zA F H'->Kz F H H'->R b H')->zQ4 X e σ H R
def fG (F:Fr)(G:Hp)(v:V):A->Prop
 |.dat d=>AV G v d
 |.tape=>∃t b c,F.tp=some (t,b,c)/\v=.ref t
 |_=>False
inductive zT (F:Fr)(G:Hp):List V->List A->Prop where
 |nil:zT F G [] []
 |cons {v:V}{vs:List V}{a:A}{as:List A}:fG F G v a->zT F G vs as->zT F G (v::vs) (a::as)
def EvA (a:List Expr)(Q:List A->Prop):Prop:=∀(F:Fr) (σ:St) (H:Hp) (R:List V->Hp->Prop),M F α σ H->(∀as vs H',Q as->zA F H'->Kz F H H'->zT F (Gz F α σ H') vs as->R vs H')->zF4 X a σ H R
end
theorem fG.to {F F':Fr}{G d:Hp}(s:zu G d)(f:F'.tp=F.tp){v:V}:∀{a:A},fG F G v a->fG F' d v a
 |.dat _,h=>AV.same s h
 |.tape,⟨t,b,c,e,z⟩=>⟨t,b,c,f.trans e,z⟩
 |.ow _,h=>h
 |.deep _ _,h=>h
 |.at _,h=>h
 |.exc _ _,h=>h
 |.pin _ _ _,h=>h
 |.nst _ _ _,h=>h
theorem zT.to {F F':Fr}{G a:Hp}(s:zu G a)(c:F'.tp=F.tp){vs:List V}{as:List A}(h:zT F G vs as):zT F' a vs as:=by
 induction h with
 |nil=>exact .nil
 |cons h _ b=>exact .cons (h.to s c) b
theorem zT.length {F:Fr}{G:Hp}:∀{vs:List V}{as:List A},zT F G vs as->vs.length=as.length
 |_,_,.nil=>rfl
 |_,_,.cons _ r=>by rw[z00,z00,zT.length r]
def A.d :A->PyData
 |.dat d=>d
 |.ow c=>c
 |.deep d _=>d
 |.nst _ _ dss=>.list (dss.map .list)
 |_=>.none
def cj (F:Fr)(v:V)(H':Hp):A->Prop
 |.dat d=>AV (sub (λx=>¬F.O0 x) H') v d
 |.ow c=>∃l xs ds,v=.ref l/\c=.list ds/\F.H0 l=none/\¬F.O0 l/\H' l=some (.lst xs)/\AVs (sub (λx=>¬F.O0 x/\x≠l) H') xs ds
 |.deep d S=>AV (uW S (sub (λx=>¬F.O0 x) H') H') v d/\∀x,S x->¬F.O0 x/\F.H0 x=none/\∃xs,H' x=some (.lst xs)
 |.nst l ls dss=>v=.ref l/\H' l=some (.lst (ls.map .ref))/\wa (sub (λx=>¬F.O0 x/\x∉l::ls) H') H' ls dss/\(l::ls).Nodup/\∀x∈l::ls,¬F.O0 x/\F.H0 x=none
 |_=>False
def xB (F:Fr)(v:V)(H':Hp)(a:A):Prop:=zA F H'/\Kz F F.H0 H'/\cj F v H' a
def spA (φ:List A->(A->Prop)->Prop):Sp:=λvs H b _=>∃(F:Fr) (as:List A) (Q:A->Prop),F.H0=H/\zA F H/\(∀x,F.O0 x->∃o,H x=some o/\wb o)/\zT F (sub (λx=>¬F.O0 x) H) vs as/\φ as Q/\∀a v H',Q a->xB F v H' a->b v H'
theorem cj.to {F F':Fr}{v:V}{H':Hp}{a:A}(r:cj F v H' a)(b:∀x,F'.O0 x->F.O0 x)(h0:∀x,F.H0 x=none->F'.H0 x=none):cj F' v H' a:=by
 have s:zu (sub (λx=>¬F.O0 x) H') (sub (λx=>¬F'.O0 x) H'):=zm λa o h e=>⟨λz=>h (b _ z),e⟩;cases a with
 |dat d=>exact AV.same s r
 |ow c=>
  obtain⟨l,xs,ds,f,n,g,j,k,i⟩:=r;exact⟨l,xs,ds,f,n,h0 _ g,λz=>j (b _ z),k,i.same (zm λa o h e=>⟨⟨λz=>h.1 (b _ z),h.2⟩,e⟩)⟩
 |deep d S=>
  obtain⟨f,g⟩:=r;refine⟨f.same (vE s λ_ _ _ e=>e),λx z=>?_⟩;obtain⟨p,q,z3⟩:=g x z;exact⟨λw=>p (b _ w),h0 _ q,z3⟩
 |tape=>exact r
 |«at» _=>exact r
 |exc _ _=>exact r
 |pin _ _ _=>exact r
 |nst l ls dss=>
  obtain⟨f,g,j,k,i⟩:=r;exact⟨f,g,j.same (zm λa o h e=>⟨⟨λz=>h.1 (b _ z),h.2⟩,e⟩) (λ_ _ _ e=>e),k,λx m=>⟨λz=>(i x m).1 (b _ z),h0 _ (i x m).2⟩⟩
structure yi where
 nx:Ev->Prop
 rt:A->Prop
 bk:Ev->Prop:=λ_=>False
 ct:Ev->Prop:=λ_=>False
structure qq (F:Fr)(E:yi)(D:Ends):Prop where
 nx:∀α σ H,M F α σ H->E.nx α->D.nx σ H
 rt:∀a v H,xB F v H a->E.rt a->D.rt v H
 bk:∀α σ H,M F α σ H->E.bk α->D.bk σ H
 ct:∀α σ H,M F α σ H->E.ct α->D.ct σ H
def SvS (X:Cx)(α:Ev)(a:List Stmt)(E:yi):Prop:=∀(F:Fr) (σ:St) (H:Hp) (D:Ends),M F α σ H->qq F E D->oX X a D σ H
theorem qq.up {F:Fr}{G:Hp}{E:yi}{D:Ends}(e:qq F E D):qq (F.up G) E D where
 nx:=λα σ H m q=>e.nx α σ H m.down q
 bk:=λα σ H m q=>e.bk α σ H m.down q
 ct:=λα σ H m q=>e.ct α σ H m.down q
 rt:=λa v H r q=>e.rt a v H (by
  obtain⟨t,k,r⟩:=r;exact⟨t.to rfl λ_ z=>z,λx o e n=>k x o (oA e) n,r.to (λ_ z=>z) λx z=>iR z⟩) q
section
variable {X:Cx}{α:Ev}{e a b c:Expr}{es:List Expr}{pos p q:Pos}{Q:PyData->Prop}
theorem EvL.d (h:EvL X α e (λds=>Q (.list ds))):EvD X α e Q:=λF σ H R m k=>h F σ H R m λds v H' q t z f=>k _ v H' q t z (f.av m)
theorem EvD.imp {f:PyData->Prop}(h:EvD X α e f)(k:∀d,f d->Q d):EvD X α e Q:=λF σ H R m r=>h F σ H R m λd v H' q=>r d v H' (k d q)
theorem zg (i:Nat){x:Str}{d:PyData}(hi:α[i]?=some (some (.dat d)))(q:Q d)(l:X.N[i]?=some x:=by rfl)(h:Vis X.env.scope x:=by first|exact Or.inl rfl|exact Or.inr (Or.inl rfl)|exact Or.inr (Or.inr rfl))
  (hd:(x == ("__debug__":Str))=false:=by decide) (f:(x == ("__classdict__":Str))=false:=by decide):EvD X α (.Name x pos) Q:=λF σ H R m k=>by
 obtain⟨v,g,j⟩:=m.dat i d hi;exact⟨_,yB l h hd f,v,g,k d v H q m.tp Kz.refl j⟩
theorem yc {i:Int}{j:Nat}(q:Q (.int i)):EvD X α (.Constant (.int i) j pos) Q:=λF σ H R m k=>⟨_,ye,k _ _ H q m.tp Kz.refl (.int i)⟩
theorem za6 {i:Bool}{j:Nat}(q:Q (.bool i)):EvD X α (.Constant (.bool i) j pos) Q:=λF σ H R m k=>⟨_,zR3,k _ _ H q m.tp Kz.refl (.bl i)⟩
theorem pS {j:Nat}(q:Q .none):EvD X α (.Constant .none j pos) Q:=λF σ H R m k=>⟨_,bA,k _ _ H q m.tp Kz.refl .non⟩
theorem wZ {x:Str}{j:Nat}(q:Q (.str x)):EvD X α (.Constant (.str x) j pos) Q:=λF σ H R m k=>⟨_,zD6,k _ _ H q m.tp Kz.refl (.str x)⟩
theorem wA {x:Str}{i:Int}(hg:Gl X x)(hm:∃t,X.mg x=some (.int i t))(q:Q (.int i))(hd:(x == ("__debug__":Str))=false:=by decide):EvD X α (.Name x pos) Q:=λF σ H R m k=>by
 obtain⟨t,hm⟩:=hm;exact⟨_,zk9 hg hm (show RelV (.int i) (.int i t)from⟨t,rfl⟩) hd,k _ _ H q m.tp Kz.refl (.int i)⟩
theorem sS {f:TE->TE->TE}(hf:PE X e (f (uz X a) (uz X b)))(hr:∀σ H R,f (uz X a) (uz X b) σ H R↔uz X a σ H (λx H1=>uz X b σ H1 λy j=>f (tC x) (tC y) σ j R))
  (h:EvD X α a λx=>EvD X α b λy=>∀(F:Fr) (σ:St) (H:Hp) (i g:V) (R:VK),M F α σ H->AV (Gz F α σ H) i x->AV (Gz F α σ H) g y->(∀d v H',Q d->zA F H'->Kz F H H'->AV (Gz F α σ H') v d->R v H')->f (tC i) (tC g) σ H R):
  EvD X α e Q:=λF σ H R m k=>by
 refine⟨_,hf,(hr σ H R).mpr ?_⟩;refine h F σ H _ m λx i H1 o t1 k1 t=>?_;have m1:=m.kz k1 t1;refine o F σ H1 _ m1 λy g j r t2 k2 l=>?_;exact r F σ j i g R (m1.kz k2 t2) (t.same (k2.gz m1.tp)) l λd v H' n t3 k3 s=>k d v H' n t3 ((k1.trans k2).trans k3) s
theorem AV.int_inv {H:Hp}{v:V}{i:Int}(h:AV H v (.int i)):v=.int i:=by cases h;rfl
theorem AV.bl_inv {H:Hp}{v:V}{i:Bool}(h:AV H v (.bool i)):v=.bl i:=by cases h;rfl
theorem AV.str_inv {H:Hp}{v:V}{i:Str}(h:AV H v (.str i)):v=.str i:=by cases h;rfl
theorem AV.tup_inv {H:Hp}{v:V}{ds:List PyData}(h:AV H v (.tuple ds)):∃a xs,v=.ref a/\H a=some (.tup xs)/\AVs H xs ds:=by cases h;exact⟨_,_,rfl,by assumption,by assumption⟩
theorem AV.lst_inv {H:Hp}{v:V}{ds:List PyData}(h:AV H v (.list ds)):∃a xs,v=.ref a/\H a=some (.lst xs)/\AVs H xs ds:=by cases h;exact⟨_,_,rfl,by assumption,by assumption⟩
theorem AV.non_inv {H:Hp}{v:V}(h:AV H v .none):v=.non:=by cases h;rfl
theorem AV.isnon {H:Hp}{v:V}{d:PyData}(h:AV H v d):decide (v=.non)=(match d with|.none=>true|_=>false):=by cases h<;>simp
theorem ou {op:Operator}{C:Int->Int->Prop}{g:Int->Int->V}{gd:Int->Int->PyData}(l:OpR X (binaryOp op) (rI C g))(hg:∀H i j,AV H (g i j) (gd i j))
  (h:EvD X α a λx=>EvD X α b λy=>∃i j,x=.int i/\y=.int j/\C i j/\Q (gd i j)):EvD X α (.BinOp a op b pos) Q:=by
 refine sS (f:=tOp (rI C g)) (xk l zf zf) (λ_ _ _=>Iff.rfl) (h.imp λx h=>h.imp λy d=>?_);obtain⟨i,j,e1,r,o,hq⟩:=d;subst e1 r;intro F σ H u t R m s n k;cases s.int_inv;cases n.int_inv;exact⟨i,j,rfl,rfl,o,k _ _ H hq m.tp Kz.refl (hg _ i j)⟩
theorem iC {op:Operator}{g:Int->Int->V}{gd:Int->Int->PyData}(l:OpR X (binaryOp op) (rI0 g))(hg:∀H i j,AV H (g i j) (gd i j))
  (h:EvD X α a λx=>EvD X α b λy=>∃i j,x=.int i/\y=.int j/\Q (gd i j)):EvD X α (.BinOp a op b pos) Q:=by
 refine sS (f:=tOp (rI0 g)) (xk l zf zf) (λ_ _ _=>Iff.rfl) (h.imp λx h=>h.imp λy d=>?_);obtain⟨i,j,e1,o,hq⟩:=d;subst e1 o;intro F σ H t s R m r n k;cases r.int_inv;cases n.int_inv;exact⟨i,j,rfl,rfl,k _ _ H hq m.tp Kz.refl (hg _ i j)⟩
theorem sJ (h:EvD X α a λx=>EvD X α b λy=>∃i j,x=.int i/\y=.int j/\Q (.int (i+j))):EvD X α (.BinOp a .Add b pos) Q:=iC (gd:=λi j=>.int (i+j)) pX (λ_ _ _=>.int _) h
theorem kQ (h:EvD X α a λx=>EvD X α b λy=>∃i j,x=.int i/\y=.int j/\Q (.int (i-j))):EvD X α (.BinOp a .Sub b pos) Q:=iC (gd:=λi j=>.int (i-j)) zI3 (λ_ _ _=>.int _) h
theorem zA3 (h:EvD X α a λx=>EvD X α b λy=>∃i j,x=.int i/\y=.int j/\zl0 i j/\Q (.int (i*j))):EvD X α (.BinOp a .Mult b pos) Q:=ou (gd:=λi j=>.int (i*j)) om (λ_ _ _=>.int _) h
theorem zJ0 (h:EvD X α a λx=>EvD X α b λy=>∃i j,x=.int i/\y=.int j/\zI9 i j/\Q (.int (i ^ j.toNat))):EvD X α (.BinOp a .Pow b pos) Q:=ou (gd:=λi j=>.int (i ^ j.toNat)) zz7 (λ_ _ _=>.int _) h
theorem zd5 (h:EvD X α a λx=>EvD X α b λy=>∃i j,x=.int i/\y=.int j/\0<j/\Q (.int (i % j))):EvD X α (.BinOp a .Mod b pos) Q:=ou (gd:=λi j=>.int (i % j)) rK (λ_ _ _=>.int _) h
theorem zf8 (h:EvD X α a λx=>EvD X α b λy=>∃i j,x=.int i/\y=.int j/\zx3 i j/\Q (.int (i / j))):EvD X α (.BinOp a .FloorDiv b pos) Q:=ou (gd:=λi j=>.int (i / j)) sx (λ_ _ _=>.int _) h
theorem vg {i j r:Int}{p1 p2:Pos}{n1 f:Nat}(d:zI9 i j)(hr:i ^ j.toNat=r)(q:Q (.int r)):EvD X α (.BinOp (.Constant (.int i) n1 p1) .Pow (.Constant (.int j) f p2) pos) Q:=
 zJ0 (yc (yc ⟨i,j,rfl,rfl,d,hr▸q⟩))
theorem zA7 (h:EvD X α a λx=>∃i,x=.int i/\Q (.int (-i))):EvD X α (.UnaryOp .USub a pos) Q:=λF σ H R m k=>by
 refine⟨_,zz3 bZ zf,?_⟩;refine h F σ H _ m λx g H1 d t1 k1 f=>?_;obtain⟨i,rfl,q⟩:=d;cases f.int_inv;exact⟨i,rfl,k _ _ H1 q t1 k1 (.int _)⟩
theorem jF {op:CmpOp}{g:Int->Int->Bool}(l:OpR X (compareOp op) (rI0 λi j=>.bl (g i j)))(hm:behindInMarks op b=false)
  (h:EvD X α a λx=>EvD X α b λy=>∃i j,x=.int i/\y=.int j/\Q (.bool (g i j))):EvD X α (.Compare a [op] [b] pos) Q:=by
 refine sS (f:=tOp (rI0 λi j=>.bl (g i j))) (pY l zf zf hm) (λ_ _ _=>Iff.rfl) (h.imp λx h=>h.imp λy d=>?_);obtain⟨i,j,e1,o,hq⟩:=d;subst e1 o;intro F σ H t s R m r n k;cases r.int_inv;cases n.int_inv;exact⟨i,j,rfl,rfl,k _ _ H hq m.tp Kz.refl (.bl _)⟩
theorem zL3 (h:EvD X α a λx=>EvD X α b λy=>∃i j,x=.int i/\y=.int j/\Q (.bool (decide (i<j)))):EvD X α (.Compare a [.Lt] [b] pos) Q:=jF zw4 (yR _) h
theorem zS4 (h:EvD X α a λx=>EvD X α b λy=>∃i j,x=.int i/\y=.int j/\Q (.bool (decide (i<=j)))):EvD X α (.Compare a [.LtE] [b] pos) Q:=jF cJ (yR _) h
def xl :PyData->Bool
 |.none=>true
 |_=>false
theorem AV.non_iff {H:Hp}{v:V}{d:PyData}(h:AV H v d):decide (v=.non)=xl d:=by cases h<;>simp[xl]
theorem zB1 {j:Nat}(h:EvD X α a λx=>Q (.bool (xl x))):EvD X α (.Compare a [.Is] [.Constant .none j p] pos) Q:=λF σ H R m k=>by
 refine⟨_,pY cO zf bA (yR _),?_⟩;refine h F σ H _ m λx g H1 d t1 k1 f=>⟨rfl,?_⟩;rw[f.non_iff];exact k _ _ H1 d t1 k1 (.bl _)
theorem zc6 {op d:CmpOp}{g g':Int->Int->Bool}(r:OpR X (compareOp op) (rI0 λi j=>.bl (g i j)))(l:OpR X (compareOp d) (rI0 λi j=>.bl (g' i j)))(hm:lastMarks [op,d] [b,c]=false)
  (h:EvD X α a λx=>EvD X α b λy=>∃i j,x=.int i/\y=.int j/\(if g i j=true then EvD X α c λz=>∃k,z=.int k/\Q (.bool (g' j k))else Q (.bool false))):EvD X α (.Compare a [op,d] [b,c] pos) Q:=λF σ H R m k=>by
 refine⟨_,za4 r l zf zf zf hm,?_⟩;refine h F σ H _ m λx D H1 w t1 k1 v=>?_;have m1:=m.kz k1 t1;refine w F σ H1 _ m1 λy C n A t2 k2 o=>?_;obtain⟨i,j,e1,t,hq⟩:=A;subst e1 t;cases v.int_inv;cases o.int_inv;have m2:=m1.kz k2 t2;refine⟨i,j,rfl,rfl,_,rfl,?_⟩;cases hg:g i j with
 |true=>
  rw[hg]at hq;refine pR ?_;refine(by simpa using hq:EvD X α c _) F σ n _ m2 λz E H3 u t3 k3 B=>?_;obtain⟨s,rfl,f⟩:=u;cases B.int_inv;exact⟨j,s,rfl,rfl,k _ _ H3 f t3 ((k1.trans k2).trans k3) (.bl _)⟩
 |false=>
  rw[hg]at hq;exact oj (k _ _ n (by simpa using hq) t2 (k1.trans k2) (.bl _))
theorem dP {Q:Bool->Prop}(h:EvD X α e λx=>∃k,x=.bool k/\Q k)(he:∀whole,isTrue e X.env whole=(do let v <-whole;standAt e.pos;holding [v] (truthy v)):=by intro _;rfl):EvT X α e Q:=λF σ H R m k=>by
 refine⟨_,zE2 zf he,?_⟩;refine h F σ H _ m λx g H1 d t1 k1 f=>?_;obtain⟨b,rfl,q⟩:=d;cases f.bl_inv;exact⟨b,rfl,k b H1 q t1 k1⟩
def Cmp (r:R2)(x y:PyData)(k:Bool):Prop:=∀(p:Addr->Prop) (H:Hp) (f d:V) (R:VK),AV (sub p H) f x->AV (sub p H) d y->R (.bl k) H->r f d H R
theorem xT {op:CmpOp}{r:R2}{Q:Bool->Prop}(i:OpR X (compareOp op) r)(hm:behindInMarks op b=false)(h:EvD X α a λx=>EvD X α b λy=>∃k,Cmp r x y k/\Q k):EvT X α (.Compare a [op] [b] pos) Q:=λF σ H R m k=>by
 refine⟨_,jx i zf zf hm,?_⟩;refine h F σ H _ m λx j H1 l t1 k1 s=>?_;have m1:=m.kz k1 t1;refine l F σ H1 _ m1 λy f d n t2 k2 g=>?_;obtain⟨b,o,q⟩:=n;exact o _ d j f _ (s.same (k2.gz m1.tp)) g ⟨b,rfl,k b d q t2 (k1.trans k2)⟩
theorem zo5 {g:Int->Int->Bool}{i j:Int}:Cmp (rI0 λi j=>.bl (g i j)) (.int i) (.int j) (g i j):=λp H l k R f d h=>by
 cases f.int_inv;cases d.int_inv;exact⟨i,j,rfl,rfl,h⟩
theorem pG {op:CmpOp}{g:Int->Int->Bool}{Q:Bool->Prop}(f:OpR X (compareOp op) (rI0 λi j=>.bl (g i j)))(hm:behindInMarks op b=false)
  (h:EvD X α a λx=>EvD X α b λy=>∃i j,x=.int i/\y=.int j/\Q (g i j)):EvT X α (.Compare a [op] [b] pos) Q:=
 xT f hm (h.imp λx h=>h.imp λy d=>by obtain⟨i,j,e1,k,q⟩:=d;exact⟨_,by subst e1 k;exact zo5,q⟩)
theorem zR7 {Q:Bool->Prop}(h:EvD X α a λx=>EvD X α b λy=>∃i j,x=.int i/\y=.int j/\Q (decide (i<j))):EvT X α (.Compare a [.Lt] [b] pos) Q:=pG zw4 (yR _) h
theorem jX {Q:Bool->Prop}(h:EvD X α a λx=>EvD X α b λy=>∃i j,x=.int i/\y=.int j/\Q (decide (j<i))):EvT X α (.Compare a [.Gt] [b] pos) Q:=pG zu2 (yR _) h
theorem zx1 {Q:Bool->Prop}(h:EvD X α a λx=>EvD X α b λy=>∃i j,x=.int i/\y=.int j/\Q (decide (j<=i))):EvT X α (.Compare a [.GtE] [b] pos) Q:=pG zK8 (yR _) h
theorem oG {j:Nat}{Q:Bool->Prop}(h:EvD X α a λx=>Q (xl x)):EvT X α (.Compare a [.Is] [.Constant .none j p] pos) Q:=
 xT cO (yR _) (h.imp λx h=>pS ⟨_,λp H i g R f d z=>⟨d.non_inv,by rw[f.non_iff];exact z⟩,h⟩)
theorem zi9 {j:Nat}{Q:Bool->Prop}(h:EvD X α a λx=>Q (!xl x)):EvT X α (.Compare a [.IsNot] [.Constant .none j p] pos) Q:=
 xT zp4 (yR _) (h.imp λx h=>pS ⟨_,λp H i g R f d z=>⟨d.non_inv,by rw[f.non_iff];exact z⟩,h⟩)
def zD8 :PyData->Option Bool
 |.none=>some false
 |.bool b=>some b
 |.int i=>some (i != 0)
 |.list ds=>some (!ds.isEmpty)
 |.tuple ds=>some (!ds.isEmpty)
 |_=>none
theorem AVs.isEmpty {H:Hp}{xs:List V}{ds:List PyData}(h:AVs H xs ds):xs.isEmpty=ds.isEmpty:=by cases h<;>rfl
theorem mD {Q:Bool->Prop}(h:EvD X α e λx=>∃k,zD8 x=some k/\Q k)(he:∀whole,isTrue e X.env whole=(do let v <-whole;standAt e.pos;holding [v] (truthy v)):=by intro _;rfl):EvT X α e Q:=λF σ H R m k=>by
 refine⟨_,aH zf he,?_⟩;refine h F σ H _ m λx l H1 j t1 k1 g=>?_;obtain⟨b,hb,q⟩:=j;refine⟨b,?_,k b H1 q t1 k1⟩;cases g with
 |non=>cases hb;rfl
 |bl z=>cases hb;rfl
 |int i=>cases hb;rfl
 |str s=>cases hb
 |lst d f=>cases hb;exact .inl ⟨_,SqL.of (zb d).2,by rw[f.isEmpty]⟩
 |tup d f=>cases hb;exact .inr (.inl ⟨_,SqT.of (zb d).2,by rw[f.isEmpty]⟩)
 |ins _ _=>cases hb
 |dk _ _=>cases hb
 |dt _ _=>cases hb
 |xc _ _ _=>cases hb
 |xn _=>cases hb
theorem aT {Q:Bool->Prop}(h:EvT X α a λk=>Q (!k)):EvT X α (.UnaryOp .Not a pos) Q:=λF σ H R m k=>by
 refine⟨_,zE9 xm,?_⟩;exact h F σ H _ m λb H1 d t1 k1=>k _ H1 d t1 k1
def EvW (X:Cx)(α:Ev)(e:Expr)(Q:Bool->Prop):Prop:=∀(F:Fr) (σ:St) (H:Hp) (R:Bool->Hp->Prop),M F α σ H->(∀b H',Q b->zA F H'->Kz F H H'->R b H')->∃t,PW X e t/\t σ H R
def zX2 (X:Cx)(e:Expr):TT:=λσ H Q=>∃t,PW X e t/\t σ H Q
theorem jU :PW X e (zX2 X e):=λw pins s σ H Q I d=>by obtain⟨t,p,q⟩:=d;exact p w pins s σ H Q I q
theorem EvW.t {Q:Bool->Prop}(h:EvW X α e Q):EvT X α e Q:=λF σ H R m k=>by
 obtain⟨t,p,q⟩:=h F σ H R m k;exact⟨t,p.pt,q⟩
variable {rest:List Expr}
theorem iL {Q:Bool->Prop}(h:EvT X α a Q):EvW X α (.BoolOp .And [a] pos) Q:=λF σ H R m k=>⟨_,zl9 xm,h F σ H R m k⟩
theorem zA6 {Q:Bool->Prop}(h:EvT X α a Q):EvW X α (.BoolOp .Or [a] pos) Q:=λF σ H R m k=>⟨_,zA5 xm,h F σ H R m k⟩
theorem eZ {Q:Bool->Prop}(h:EvT X α a λk=>if k=true then EvW X α (.BoolOp .And (b::rest) pos) Q else Q false):EvW X α (.BoolOp .And (a::b::rest) pos) Q:=λF σ H R m k=>by
 refine⟨_,zE4 xm jU,?_⟩;refine h F σ H _ m λc H1 d t1 k1=>?_;cases c with
 |true=>exact pR ((by simpa using d:EvW X α _ Q) F σ H1 R (m.kz k1 t1) λb f g t2 k2=>k b f g t2 (k1.trans k2))
 |false=>exact oj (k _ H1 (by simpa using d) t1 k1)
theorem zx5 {Q:Bool->Prop}(h:EvT X α a λk=>if k=true then Q true else EvW X α (.BoolOp .Or (b::rest) pos) Q):EvW X α (.BoolOp .Or (a::b::rest) pos) Q:=λF σ H R m k=>by
 refine⟨_,zO0 xm jU,?_⟩;refine h F σ H _ m λc H1 d t1 k1=>?_;cases c with
 |false=>exact oj ((by simpa using d:EvW X α _ Q) F σ H1 R (m.kz k1 t1) λb f g t2 k2=>k b f g t2 (k1.trans k2))
 |true=>exact pR (k _ H1 (by simpa using d) t1 k1)
theorem zF7 {op}(h:EvD X α a Q):EvD X α (.BoolOp op [a] pos) Q:=λF σ H R m k=>⟨_,zF8 zf,h F σ H R m k⟩
theorem zI0 (h:EvD X α a λx=>∃k,x=.bool k/\if k=true then EvD X α (.BoolOp .And (b::rest) pos) Q else Q (.bool false)):EvD X α (.BoolOp .And (a::b::rest) pos) Q:=λF σ H R m k=>by
 refine⟨_,zA9 zf zf,?_⟩;refine h F σ H _ m λx n H1 f t1 k1 l=>?_;obtain⟨c,rfl,f⟩:=f;cases l.bl_inv;refine⟨c,rfl,?_⟩;cases c with
 |true=>exact pR ((by simpa using f:EvD X α _ Q) F σ H1 R (m.kz k1 t1) λd v i j t2 k2 g=>k d v i j t2 (k1.trans k2) g)
 |false=>exact oj (k _ _ H1 (by simpa using f) t1 k1 (.bl _))
theorem zL8 (h:EvD X α a λx=>∃k,x=.bool k/\if k=true then Q (.bool true)else EvD X α (.BoolOp .Or (b::rest) pos) Q):EvD X α (.BoolOp .Or (a::b::rest) pos) Q:=λF σ H R m k=>by
 refine⟨_,zT1 zf zf,?_⟩;refine h F σ H _ m λx n H1 f t1 k1 l=>?_;obtain⟨c,rfl,f⟩:=f;cases l.bl_inv;refine⟨c,rfl,?_⟩;cases c with
 |false=>exact oj ((by simpa using f:EvD X α _ Q) F σ H1 R (m.kz k1 t1) λd v i j t2 k2 g=>k d v i j t2 (k1.trans k2) g)
 |true=>exact pR (k _ _ H1 (by simpa using f) t1 k1 (.bl _))
theorem zd9 (h:EvD X α a λx=>∃k,x=.bool k/\Q (.bool (!k))):EvD X α (.UnaryOp .Not a pos) Q:=λF σ H R m k=>by
 refine⟨_,zD4 zf,?_⟩;refine h F σ H _ m λx g H1 d t1 k1 f=>?_;obtain⟨c,rfl,q⟩:=d;cases f.bl_inv;exact⟨c,rfl,k _ _ H1 q t1 k1 (.bl _)⟩
theorem ki (h:EvT X α c λk=>if k=true then EvD X α a Q else EvD X α b Q):EvD X α (.IfExp c a b pos) Q:=λF σ H R m k=>by
 refine⟨_,zc5 xm zf zf,?_⟩;refine h F σ H _ m λx H1 j t1 k1=>?_;cases x with
 |true=>exact pR ((by simpa using j:EvD X α _ Q) F σ H1 R (m.kz k1 t1) λd v g i t2 k2 f=>k d v g i t2 (k1.trans k2) f)
 |false=>exact oj ((by simpa using j:EvD X α _ Q) F σ H1 R (m.kz k1 t1) λd v g i t2 k2 f=>k d v g i t2 (k1.trans k2) f)
theorem oS (o:oh b)(h:EvD X α a λx=>EvD X α b λy=>∃ds i d,x=.tuple ds/\y=.int i/\atI ds i=some d/\Q d):EvD X α (.Subscript a b pos) Q:=by
 refine sS (f:=tOp (zJ7 X.K)) (vR dS zf zf o) (λ_ _ _=>Iff.rfl) (h.imp λx h=>h.imp λy g=>?_);obtain⟨ds,i,d,e1,r,j,hq⟩:=g;subst e1 r;intro F σ H z w R m s l k;obtain⟨a,xs,rfl,n,u⟩:=s.tup_inv;cases l.int_inv;obtain⟨v,t,av⟩:=u.atI j;exact⟨a,xs,i,v,rfl,rfl,SqT.of (zb n).2,t,k d v H hq m.tp Kz.refl av⟩
def EvO (X:Cx)(α:Ev)(e:Option Expr)(Q:Option Int->Prop):Prop:=∀(F:Fr) (σ:St) (H:Hp) (R:Option Int->Hp->Prop),M F α σ H->(∀i H',Q i->zA F H'->Kz F H H'->R i H')->∃t,PO X e t/\t σ H R
def zV0 (X:Cx)(e:Option Expr):TO:=λσ H Q=>∃t,PO X e t/\t σ H Q
theorem jK {e:Option Expr}:PO X e (zV0 X e):=λpins s σ H Q I d=>by obtain⟨t,p,q⟩:=d;exact p pins s σ H Q I q
theorem zf5 {Q:Option Int->Prop}(q:Q none):EvO X α none Q:=λF σ H R m k=>⟨_,iM,k _ H q m.tp Kz.refl⟩
theorem zm6 {Q:Option Int->Prop}(h:EvD X α a λx=>∃i,x=.int i/\Q (some i)):EvO X α (some a) Q:=λF σ H R m k=>by
 refine⟨_,jH zf,?_⟩;refine h F σ H _ m λx g H1 d t1 k1 f=>?_;obtain⟨i,rfl,q⟩:=d;cases f.int_inv;exact⟨i,rfl,k _ H1 q t1 k1⟩
theorem M.lay {F:Fr}{σ:St}{H:Hp}{l:Addr}{xs:List V}{ds:List PyData}(m:M F α σ H)(d:H l=none)(h:AVs (Gz F α σ H) xs ds):zA F (upd H l (.lst xs))/\Kz F H (upd H l (.lst xs))/\yJ F α σ H (.ref l) (upd H l (.lst xs)) ds:=by
 refine⟨m.tp.same (zH d),Kz.of_same (zH d),l,xs,rfl,d,zh,h.same (zm λa o ha e=>?_)⟩;have:=zk e d;exact⟨⟨ha,this⟩,by rw[zc this];exact e⟩
theorem md {lo hi:Option Expr}{Q:List PyData->Prop}(h:EvD X α a λx=>EvO X α lo λl=>EvO X α hi λu=>∃ds,x=.list ds/\Q (cutD ds l u)):EvL X α (.Subscript a (.Slice lo hi none p) pos) Q:=λF σ H R m k=>by
 refine⟨_,lh jB zf jK jK,?_⟩;refine h F σ H _ m λx C H1 w t1 k1 t=>?_;have m1:=m.kz k1 t1;refine w F σ H1 _ m1 λl v y t2 k2=>?_;have m2:=m1.kz k2 t2;refine y F σ v _ m2 λu H3 s t3 k3=>?_;have m3:=m2.kz k3 t3;obtain⟨ds,rfl,q⟩:=s;obtain⟨a,xs,rfl,j,A⟩:=(t.same ((k2.gz m1.tp).trans (k3.gz m2.tp))).lst_inv;refine⟨a,xs,rfl,SqL.of (zb j).2,λp n=>?_⟩;obtain⟨g1,g2,g3⟩:=m3.lay n (A.cut l u);have i:=(k1.trans k2).trans k3;obtain⟨g,d,e1,f,B,r⟩:=g3;refine k _ _ _ q g1 (i.trans g2) ⟨g,d,e1,?_,B,r⟩;cases z:H g with
 |none=>rfl
 |some o=>rw[i g o z (m.tp.nt (ow0 (m3.fresh f)))]at f;cases f
theorem yJ.back {F:Fr}{σ:St}{H H1 H':Hp}{v:V}{ds:List PyData}(m:M F α σ H)(k:Kz F H H1)(t1:zA F H1)(h:yJ F α σ H1 v H' ds):yJ F α σ H v H' ds:=by
 obtain⟨g,d,e1,f,j,i⟩:=h;refine⟨g,d,e1,?_,j,i⟩;cases z:H g with
 |none=>rfl
 |some o=>rw[k g o z (m.tp.nt (ow0 ((m.kz k t1).fresh f)))]at f;cases f
theorem zq {Q:List A->Prop}(q:Q []):EvA X α [] Q:=λF σ H R m k=>⟨_,zW,k _ _ H q m.tp Kz.refl .nil⟩
theorem zi {Q:List A->Prop}(h:EvD X α e λd=>EvA X α es λas=>Q (.dat d::as))(l:starEach (e::es) X.env=(false,eval e X.env)::starEach es X.env:=by rfl):EvA X α (e::es) Q:=λF σ H R m k=>by
 refine⟨_,zy zf yt l,?_⟩;refine h F σ H _ m λd v H1 i t1 k1 n=>?_;have m1:=m.kz k1 t1;exact i F σ H1 _ m1 λas vs g j t2 k2 f=>k _ _ g j t2 (k1.trans k2) (.cons (n.same (k2.gz m1.tp)) f)
theorem yK {Q:List A->Prop}(i:Nat){x:Str}(hi:α[i]?=some (some .tape))(h:EvA X α es λas=>Q (.tape::as))(s:X.N[i]?=some x:=by rfl)(o:Vis X.env.scope x:=by first|exact Or.inl rfl|exact Or.inr (Or.inl rfl)|exact Or.inr (Or.inr rfl))
  (hd:(x == ("__debug__":Str))=false:=by decide) (d:(x == ("__classdict__":Str))=false:=by decide) (n:starEach (.Name x pos::es) X.env=(false,eval (.Name x pos) X.env)::starEach es X.env:=by rfl):EvA X α (.Name x pos::es) Q:=λF σ H R m k=>by
 obtain⟨t,b,c,g,r⟩:=m.tvar i hi;refine⟨_,zy (yB s o hd d) yt n,.ref t,r,?_⟩;exact h F σ H _ m λas vs j l t2 k2 f=>k _ _ j l t2 k2 (.cons ⟨t,b,c,g,rfl⟩ f)
def datas :List A->Option (List PyData)
 |[]=>some []
 |.dat d::r=>(datas r).map (d::·)
 |_::_=>none
theorem zT.datas {F:Fr}{G:Hp}{vs:List V}{as:List A}{ds:List PyData}(h:zT F G vs as)(e:L2.datas as=some ds):AVs G vs ds:=by
 induction h generalizing ds with
 |nil=>cases e;exact .nil
 |@cons _ _ a as h _ ih=>
  cases a with
  |dat d=>
   obtain⟨es,e1,rfl⟩:=zZ3.mp e;exact .cons h (ih e1)
  |tape=>cases e
  |_=>exact h.elim
theorem ji {n:Nat}(h:EvA X α es λas=>∃ds,datas as=some ds/\ds.length<=1000/\Q (.tuple ds)):EvD X α (.Tuple es n pos) Q:=λF σ H R m k=>by
 refine⟨_,lZ yt,?_⟩;refine h F σ H _ m λas vs H1 f t1 k1 i=>?_;obtain⟨ds,e,g,q⟩:=f;have r:=i.datas e;have m1:=m.kz k1 t1;refine⟨by rw[r.length];exact z30 (yb g),λp d=>?_⟩;refine k _ _ _ q (t1.same (zH d)) (k1.trans (Kz.of_same (zH d))) (.tup (xs:=vs) (zt (m1.fresh d) zh) (r.same (zm λa o ha e=>⟨ha,by rw[zc (zk e d)];exact e⟩)))
theorem vV {Q:List PyData->Prop}(h:EvA X α es λas=>∃ds,datas as=some ds/\ds.length<=1000/\Q ds):EvL X α (.List es pos) Q:=λF σ H R m k=>by
 refine⟨_,bW yt,?_⟩;refine h F σ H _ m λas vs H1 f t1 k1 i=>?_;obtain⟨ds,e,g,q⟩:=f;have r:=i.datas e;have m1:=m.kz k1 t1;refine⟨by rw[r.length];exact z30 (yb g),λp d=>?_⟩;obtain⟨g1,g2,g3⟩:=m1.lay d r;exact k _ _ _ q g1 (k1.trans g2) (g3.back m k1 t1)
theorem uf {Q:List PyData->Prop}(h:EvD X α a λx=>EvD X α b λy=>∃ds es,x=.list ds/\y=.list es/\ds.length+es.length<=1000/\Q (ds++es)):EvL X α (.BinOp a .Add b pos) Q:=λF σ H R m k=>by
 refine⟨_,xk ze9 zf zf,?_⟩;refine h F σ H _ m λx u H1 r t1 k1 o=>?_;have m1:=m.kz k1 t1;refine r F σ H1 _ m1 λy t v s t2 k2 g=>?_;have m2:=m1.kz k2 t2;obtain⟨ds,es,rfl,rfl,n,q⟩:=s;obtain⟨a,xs,rfl,i,f⟩:=(o.same (k2.gz m1.tp)).lst_inv;obtain⟨b,ys,rfl,l,d⟩:=g.lst_inv;refine⟨a,b,xs,ys,rfl,rfl,(zb i).2,(zb l).2,by rw[f.length,d.length];exact z30 (yb n),λp j=>?_⟩;obtain⟨g1,g2,g3⟩:=m2.lay j (f.append d);exact k _ _ _ q g1 ((k1.trans k2).trans g2) (g3.back m (k1.trans k2) t2)
theorem xF {id:String}{x:Str}{r:List V->Hp->VK->Prop}(l:xi X (.builtin id) r)(hg:Gl X x)(hm:X.mg x=none)(n:bootBuiltins x=some (.builtin id))
  (h:EvA X α (e::es) λas=>∀(F:Fr) (σ:St) (H:Hp) (vs:List V) (R:VK),M F α σ H->zT F (Gz F α σ H) vs as->(∀d v H',Q d->zA F H'->Kz F H H'->AV (Gz F α σ H') v d->R v H')->r vs H R)
  (hn:x≠"__name__":=by decide) (f:(x == ("__debug__":Str))=false:=by decide) (he:starEach (e::es) X.env=(false,eval e X.env)::starEach es X.env:=by rfl) (hpl:(backTo pos (starEach es X.env)).any (·.1)=false:=by rfl):
  EvD X α (.Call (.Name x p) (e::es) [] pos) Q:=λF σ H R m k=>by
 refine⟨_,nQ l hg hm n yt hn f he hpl,?_⟩;refine h F σ H _ m λas vs H1 j t1 k1 o=>?_;exact j F σ H1 vs R (m.kz k1 t1) o λd v H' i t2 k2 g=>k d v H' i t2 (k1.trans k2) g
end
section
variable {X:Cx}{α:Ev}{e a b c:Expr}{es:List Expr}{pos p q:Pos}{Q:PyData->Prop}
theorem zT.one {F:Fr}{G:Hp}{vs:List V}{d:PyData}(h:zT F G vs [.dat d]):∃v,vs=[v]/\AV G v d:=by
 cases h with|cons h r=>cases r;exact⟨_,rfl,h⟩
theorem zT.two {F:Fr}{G:Hp}{vs:List V}{d e:PyData}(h:zT F G vs [.dat d,.dat e]):∃v u,vs=[v,u]/\AV G v d/\AV G u e:=by
 cases h with|cons h r=>obtain⟨u,rfl,f⟩:=r.one;exact⟨_,u,rfl,h,f⟩
def zU0 :PyData->Option Int
 |.list ds=>some ds.length
 |.tuple ds=>some ds.length
 |_=>none
theorem aB (hg:Gl X "len")(hm:X.mg "len"=none)(h:EvD X α e λx=>∃n,zU0 x=some n/\Q (.int n))(he:starEach [e] X.env=(false,eval e X.env)::starEach [] X.env:=by rfl):
  EvD X α (.Call (.Name "len" p) [e] [] pos) Q:=by
 refine xF oN hg hm PySem.boot_len (zi (h.imp λx f=>?_) he) (he:=he);obtain⟨n,e1,q⟩:=f;refine zq ?_;intro F σ H vs R m i k;obtain⟨v,rfl,av⟩:=i.one;cases av with
 |lst d g=>cases e1;rw[<-g.length]at q;exact⟨_,_,rfl,.inl (SqL.of (zb d).2),k _ _ H q m.tp Kz.refl (.int _)⟩
 |tup d g=>cases e1;rw[<-g.length]at q;exact⟨_,_,rfl,.inr (SqT.of (zb d).2),k _ _ H q m.tp Kz.refl (.int _)⟩
 |_=>cases e1
theorem zC7 (l:X.calm=true)(hg:Gl X "max")(hm:X.mg "max"=none)(h:EvD X α a λx=>EvD X α b λy=>∃i j,x=.int i/\y=.int j/\Q (.int (if j > i then j else i)))
  (he:starEach [a,b] X.env=(false,eval a X.env)::starEach [b] X.env:=by rfl) (d:starEach [b] X.env=(false,eval b X.env)::starEach [] X.env:=by rfl) (hpl:(backTo pos (starEach [b] X.env)).any (·.1)=false:=by rfl):
  EvD X α (.Call (.Name "max" p) [a,b] [] pos) Q:=by
 refine xF (eN l) hg hm boot_max (zi (h.imp λx h=>zi (h.imp λy f=>?_) d) he) (he:=he) (hpl:=hpl);obtain⟨i,j,e1,n,q⟩:=f;refine zq ?_;intro F σ H vs R m g k;subst e1 n;obtain⟨v,u,rfl,av,o⟩:=g.two;cases av.int_inv;cases o.int_inv;exact⟨i,j,rfl,k _ _ H q m.tp Kz.refl (.int _)⟩
theorem bT (l:X.calm=true)(hg:Gl X "min")(hm:X.mg "min"=none)(h:EvD X α a λx=>EvD X α b λy=>∃i j,x=.int i/\y=.int j/\Q (.int (if j<i then j else i)))
  (he:starEach [a,b] X.env=(false,eval a X.env)::starEach [b] X.env:=by rfl) (d:starEach [b] X.env=(false,eval b X.env)::starEach [] X.env:=by rfl) (hpl:(backTo pos (starEach [b] X.env)).any (·.1)=false:=by rfl):
  EvD X α (.Call (.Name "min" p) [a,b] [] pos) Q:=by
 refine xF (iY l) hg hm boot_min (zi (h.imp λx h=>zi (h.imp λy f=>?_) d) he) (he:=he) (hpl:=hpl);obtain⟨i,j,e1,n,q⟩:=f;refine zq ?_;intro F σ H vs R m g k;subst e1 n;obtain⟨v,u,rfl,av,o⟩:=g.two;cases av.int_inv;cases o.int_inv;exact⟨i,j,rfl,k _ _ H q m.tp Kz.refl (.int _)⟩
theorem sr {T:String}{x:Str}{p1:Pos}(hg:Gl X "isinstance")(hm:X.mg "isinstance"=none)(f:Gl X x)(g:X.mg x=none)(hT:bootBuiltins x=some (.type T))
  (h:EvD X α a λx=>∃k,x.hasDict=false/\zl5 T x=some k/\Q (.bool k)) (i:x≠"__name__":=by decide) (hdx:(x == ("__debug__":Str))=false:=by decide)
  (he:starEach [a,.Name x p1] X.env=(false,eval a X.env)::starEach [.Name x p1] X.env:=by rfl) (d:starEach [.Name x p1] X.env=(false,eval (.Name x p1) X.env)::starEach [] X.env:=by rfl) (hpl:(backTo pos (starEach [.Name x p1] X.env)).any (·.1)=false:=by rfl):
  EvD X α (.Call (.Name "isinstance" p) [a,.Name x p1] [] pos) Q:=λF σ H R m k=>by
 refine⟨_,nQ ed hg hm boot_isinstance (zy zf (zy (zi3 f g hT (show RelV (.ty T) (.type T)from rfl) i hdx) zW d) he) (he:=he) (hpl:=hpl),?_⟩;refine h F σ H _ m λx j H1 l t1 k1 n=>?_;obtain⟨b,hd,e,q⟩:=l;exact⟨j,T,x,b,rfl,(n.dv hd).same yx,e,k _ _ H1 q t1 k1 (.bl b)⟩
def wI :PyData->Option (List PyData)
 |.list ds=>some ds
 |.tuple ds=>some ds
 |_=>none
theorem oJ {Q:List PyData->Prop}(hg:Gl X "list")(hm:X.mg "list"=none)(h:EvD X α e λx=>∃ds,wI x=some ds/\Q ds)(he:starEach [e] X.env=(false,eval e X.env)::starEach [] X.env:=by rfl):
  EvL X α (.Call (.Name "list" p) [e] [] pos) Q:=λF σ H R m k=>by
 refine⟨_,wt oH hg hm boot_list (zy zf zW he) (he:=he),?_⟩;refine h F σ H _ m λx n H1 g t1 k1 j=>?_;obtain⟨ds,e1,q⟩:=g;have m1:=m.kz k1 t1;have fin:∀{xs:List V},AVs (Gz F α σ H1) xs ds->∀l,H1 l=none->R (.ref l) (upd H1 l (.lst xs)):=λ{xs} d l i=>by
  obtain⟨g1,g2,g3⟩:=m1.lay i d;exact k _ _ _ q g1 (k1.trans g2) (g3.back m k1 t1)
 cases j with
 |lst f d=>cases e1;exact⟨_,_,rfl,.inl (SqL.of (zb f).2),fin d⟩
 |tup f d=>cases e1;exact⟨_,_,rfl,.inr (SqT.of (zb f).2),fin d⟩
 |_=>cases e1
theorem AVs.bools {H:Hp}{xs:List V}{bs:List Bool}(h:AVs H xs (bs.map .bool)):xs=bs.map V.bl:=by
 induction bs generalizing xs with
 |nil=>cases h;rfl
 |cons n ns f=>cases h with
  |cons h d=>rw[z02,f d,h.bl_inv]
theorem aR (i:X.calm=true)(hg:Gl X "any")(hm:X.mg "any"=none)(h:EvD X α e λx=>∃bs:List Bool,x=.list (bs.map .bool)/\Q (.bool (bs.any id)))(he:starEach [e] X.env=(false,eval e X.env)::starEach [] X.env:=by rfl):
  EvD X α (.Call (.Name "any" p) [e] [] pos) Q:=by
 refine xF (gB i) hg hm boot_any (zi (h.imp λx d=>?_) he) (he:=he);obtain⟨bs,e1,q⟩:=d;refine zq ?_;intro F σ H vs R m g k;subst e1;obtain⟨v,rfl,av⟩:=g.one;obtain⟨a,xs,rfl,f,j⟩:=av.lst_inv;exact⟨a,bs,rfl,by rw[(zb f).2,j.bools],k _ _ H q m.tp Kz.refl (.bl _)⟩
section
variable {k:Nat}{f:Addr}{fd:FuncData}{ps:List Str}{φ:List A->(A->Prop)->Prop}{x:Str}
theorem wH {F:Fr}{σ:St}{H:Hp}{vs:List V}{as:List A}{g:A->Prop}{R:VK}(m:M F α σ H)(h:zT F (Gz F α σ H) vs as)(d:φ as g)
  (i:∀a v H',g a->xB ⟨H,Ow F α σ,F.tp⟩ v H' a->R v H') {E:XK}:spA φ (vs++[]) H R E:=by
 refine⟨⟨H,Ow F α σ,F.tp⟩,as,g,rfl,?_,?_,?_,d,i⟩
 ·exact m.tp.to rfl λ_ z=>.inl z
 ·exact λy z=>m.owEx z
 ·rw[z45];exact zT.to (F:=F) (F':=⟨H,Ow F α σ,F.tp⟩) (λ_ _ e=>e) rfl h
theorem xB.back {F:Fr}{σ:St}{H H':Hp}{v:V}{a:A}(m:M F α σ H)(h:xB ⟨H,Ow F α σ,F.tp⟩ v H' a):zA F H'/\Kz F H H'/\AV (Gz F α σ H') v a.d:=by
 obtain⟨t,kz,r⟩:=h;refine⟨m.tp.re t rfl,kz,?_⟩;cases a with
 |dat d=>exact r
 |ow c=>
  obtain⟨l,xs,ds,rfl,rfl,n,g,i,s⟩:=r;exact .lst (zt g i) (s.same (zm λa o h e=>⟨h.1,e⟩))
 |deep d S=>
  obtain⟨n,g⟩:=r;refine n.same λx o e=>?_;rcases lA e with⟨w,j⟩|⟨_,j⟩
  ·exact zt (g x w).1 j
  ·exact j
 |tape=>exact r.elim
 |«at» _=>exact r.elim
 |exc _ _=>exact r.elim
 |pin _ _ _=>exact r.elim
 |nst l ls dss=>
  obtain⟨rfl,g,i,s,u⟩:=r;exact .lst (zt (u l zY9).1 g) (i.avs (zm λa o h e=>⟨h.1,e⟩) λa ha=>(u a (zY5 _ ha)).1)
theorem zi2 (G:yv X.prog X.w X.K X.mg X.base CX0 k f fd ps (spA φ))(hr:zG k X.A)(hg:Gl X x)(hm:X.mg x=some (.ref f))(hk:PySem.W.keepIn X.K (.ref f)=true)(hb:Binds X.K fd ps [])
  (h:EvA X α (e::es) λas=>φ as λa=>Q a.d) (g:(x == ("__debug__":Str))=false:=by decide) (he:starEach (e::es) X.env=(false,eval e X.env)::starEach es X.env:=by rfl) (hpl:(backTo pos (starEach es X.env)).any (·.1)=false:=by rfl):
  EvD X α (.Call (.Name x p) (e::es) [] pos) Q:=λF σ H R m n=>by
 refine⟨_,iI G hr hg hm hk hb .nil lg yt g he hpl,?_⟩;refine h F σ H _ m λas vs H1 l t1 k1 o=>?_;have m1:=m.kz k1 t1;refine wH m1 o l λa v H' i j=>?_;obtain⟨g1,g2,g3⟩:=j.back m1;exact n _ v H' i g1 (k1.trans g2) g3
theorem zh7 {Q:List PyData->Prop}(G:yv X.prog X.w X.K X.mg X.base CX0 k f fd ps (spA φ))(hr:zG k X.A)(hg:Gl X x)(hm:X.mg x=some (.ref f))(hk:PySem.W.keepIn X.K (.ref f)=true)(hb:Binds X.K fd ps [])
  (h:EvA X α (e::es) λas=>φ as λa=>∃ds,a=.own ds/\Q ds) (d:(x == ("__debug__":Str))=false:=by decide) (he:starEach (e::es) X.env=(false,eval e X.env)::starEach es X.env:=by rfl) (hpl:(backTo pos (starEach es X.env)).any (·.1)=false:=by rfl):
  EvL X α (.Call (.Name x p) (e::es) [] pos) Q:=λF σ H R m n=>by
 refine⟨_,iI G hr hg hm hk hb .nil lg yt d he hpl,?_⟩;refine h F σ H _ m λas vs H1 u t1 k1 s=>?_;have m1:=m.kz k1 t1;refine wH m1 s u λa v H' j g=>?_;obtain⟨ds,rfl,q⟩:=j;obtain⟨g1,g2,_⟩:=g.back m1;obtain⟨_,_,l,xs,ds',rfl,o,i,y,r,t⟩:=g;cases o;exact n ds _ H' q g1 (k1.trans g2) (yJ.back m k1 t1 ⟨l,xs,rfl,i,r,t⟩)
end
theorem sA {i j:Nat}{x:Option A}(h:i≠j):(α.set i x)[j]?=α[j]?:=z53 h
theorem zz {i:Nat}{x:Option A}{j:Nat}{y:Option A}(h:(α.set i x)[j]?=some y):(i=j/\x=y)\/(i≠j/\α[j]?=some y):=by
 by_cases d:i=j
 ·subst d;left;have f:i<α.length:=by
   have:=(zY0.mp h).1
   rwa [z28]at this
  rw[z81 f]at h;exact⟨rfl,z09 h⟩
 ·right;rw[z53 d]at h;exact⟨d,h⟩
theorem M.put {F:Fr}{σ:St}{H:Hp}{i:Nat}{b:Option A}(m:M F α σ H)(hf:∀s c x,σ[i]?=some s->b=some c->foot s c x->∃a,α[i]?=some (some a)/\foot s a x)
  (hok:∀s c,i<α.length->σ[i]?=some s->b=some c->xx (Gz F (α.set i b) σ H) F H s c) (D:∀c,b=some c->noX c:=by intro c z;cases z;trivial):zu (Gz F α σ H) (Gz F (α.set i b) σ H)/\M F (α.set i b) σ H:=by
 have B:zu (Gz F α σ H) (Gz F (α.set i b) σ H):=zm λa o h e=>⟨λz=>h (by
  rcases z with z|⟨j,c,s,e1,g,f⟩
  ·exact .inl z
  ·rcases zz e1 with⟨rfl,z⟩|⟨y,n⟩
   ·obtain⟨u,v,w⟩:=hf s c a g z f;exact .inr ⟨i,u,s,v,g,w⟩
   ·exact .inr ⟨j,c,s,n,g,f⟩),e⟩
 have old:∀{j:Nat} {c:A} {s:Option V} {x:Addr},(α.set i b)[j]?=some (some c)->σ[j]?=some s->foot s c x->∃a,α[j]?=some (some a)/\foot s a x:=λ{j c s x} e1 g f=>by
  rcases zz e1 with⟨rfl,z⟩|⟨y,n⟩
  ·exact hf s c x g z f
  ·exact⟨c,n,f⟩
 refine⟨B,by rw[z28];exact m.len,λj c s e1 g=>?_,λj k c d s t x e1 g v w f1 f2=>?_,λj r q e G c s x e1 g f=>?_,m.tp,m.keep,m.oex⟩
 ·rcases zz e1 with⟨rfl,z⟩|⟨y,n⟩
  ·refine hok s c ?_ g z;have:=(zY0.mp e1).1
   rwa [z28]at this
  ·exact(m.ok j c s n g).stay B (λx o f e=>⟨e,(m.ft n g f).1,(m.ft n g f).2.1⟩) rfl λ_ _ _ l=>l
 ·obtain⟨u,g1,g2⟩:=old e1 v f1;obtain⟨C,g3,E⟩:=old g w f2;exact m.dj j k u C s t x g1 g3 v w g2 E
 ·obtain⟨u,g1,g2⟩:=old e1 g f;rcases zz e with⟨rfl,z⟩|⟨_,I⟩
  ·exact(D _ z).elim
  ·exact m.xd j r q I G u s x g1 g g2
theorem M.gave {F:Fr}{σ:St}{H:Hp}{i:Nat}{a:A}{s:Option V}{b:Option A}{x:Addr}(m:M F α σ H)(e1:α[i]?=some (some a))(d:σ[i]?=some s)(f:foot s a x)(hb:∀c,b=some c->¬foot s c x):¬Ow F (α.set i b) σ x:=by
 rintro(z|⟨j,c,t,l,h,g⟩)
 ·exact(m.ft e1 d f).1 z
 ·rcases zz l with⟨rfl,z⟩|⟨n,k⟩
  ·rw[d]at h;cases h;exact hb c z g
  ·exact n (m.dj i j a c s t x e1 k d h f g)
theorem aw {F:Fr}{σ:St}{H:Hp}{i:Nat}{b:A}(hb:∀s x,¬foot s b x):zu (Gz F α σ H) (Gz F (α.set i (some b)) σ H):=zm λa o h e=>⟨λz=>h (by
 rcases z with z|⟨j,c,s,e1,g,f⟩
 ·exact .inl z
 ·rcases zz e1 with⟨rfl,z⟩|⟨k,d⟩
  ·cases z;exact(hb _ _ f).elim
  ·exact .inr ⟨j,c,s,d,g,f⟩),e⟩
theorem M.frz {F:Fr}{σ:St}{H:Hp}{i:Nat}{ds:List PyData}(m:M F α σ H)(hi:α[i]?=some (some (.own ds))):M F (α.set i (some (.dat (.list ds)))) σ H:=
 (m.put (b:=some (.dat (.list ds))) (λs c' x _ z f=>by cases z;exact f.elim) λs c' _ g z=>by
  cases z;obtain⟨l,o,d,j,h,k,n⟩:=m.owc i _ hi;rw[d]at g;cases g;exact⟨.ref l,rfl,(h.same (aw (b:=.dat (.list ds)) λ_ _ f=>f)).av (zt (m.gave hi d rfl λc z=>by cases z;exact id) j)⟩).2
theorem jq {F:Fr}{σ:St}{H H':Hp}{i:Nat}{a:A}{b:Option A}(m:M F α σ H)(k:Kz F H H')(hi:α[i]?=some (some a))(x:Addr)(o:HO)(r:¬Ob o)(h:Gz F (α.set i b) σ H' x=some o):Gz F α σ H' x=some o:=by
 obtain⟨g,d⟩:=zb h;refine zt ?_ d;rintro(z|⟨j,c,s,e1,n,f⟩)
 ·exact g (.inl z)
 ·by_cases l:i=j
  ·subst l;obtain⟨g1,g2,o',g3,t⟩:=m.ft e1 n f;rw[k _ _ g3 (m.tp.nt g1)]at d;cases d;exact r t
  ·exact g (.inr ⟨j,c,s,by rw[sA l];exact e1,n,f⟩)
theorem jk {Q:List PyData->Prop}{i:Nat}{a:A}{b:Option A}(hi:α[i]?=some (some a))(hm:∀F σ H,M F α σ H->M F (α.set i b) σ H)(h:EvL X (α.set i b) e λd=>wm d=true/\Q d):EvL X α e Q:=λF σ H R m k=>
 h F σ H R (hm F σ H m) λd v H' q t kz r=>by
  obtain⟨l,xs,g,w,s,n⟩:=r;refine k d v H' q.2 t kz ⟨l,xs,g,w,s,n.noL (λa ys hno z=>?_) q.1⟩;obtain⟨f,j⟩:=zb z;obtain⟨o,u⟩:=zb (jq m kz hi a ys hno (zt f.1 j));exact zt ⟨o,f.2⟩ u
theorem oq (i:Nat){ds:List PyData}(hi:α[i]?=some (some (.own ds)))(h:EvD X (α.set i (some (.dat (.list ds)))) e λd=>noL d=true/\Q d):EvD X α e Q:=λF σ H R m k=>
 h F σ H R (m.frz hi) λd v H' q t kz r=>k d v H' q.2 t kz (r.noL (jq m kz hi) q.1)
theorem vF {Q:Bool->Prop}(i:Nat){ds:List PyData}(hi:α[i]?=some (some (.own ds)))(h:EvT X (α.set i (some (.dat (.list ds)))) e Q):EvT X α e Q:=λF σ H R m k=>h F σ H R (m.frz hi) k
theorem pJ {Q:List PyData->Prop}(i:Nat){ds:List PyData}(hi:α[i]?=some (some (.own ds)))(h:EvL X (α.set i (some (.dat (.list ds)))) e λd=>wm d=true/\Q d):EvL X α e Q:=jk hi (λ_ _ _ m=>m.frz hi) h
def ItW (p:Addr->Prop)(J:It)(ds:List PyData)(G:Hp):Prop:=∀(i:Nat) (f:Hp) (q:Addr->Prop),zu G (sub q f)->
 (∀d,ds[i]?=some d->J.go i f/\∀x H3,J.yld i f x H3->zu f H3/\((∀a o,H3 a=some o->f a=none->q a)->AV (sub q H3) x d))/\(ds.length<=i->J.stop i f)
def zj4 (X:Cx)(tg e:Expr):TI:=λσ H R=>∃t,PI X tg e t/\t σ H R
theorem uw {tg e:Expr}:PI X tg e (zj4 X tg e):=λpins s σ H R I d=>by obtain⟨t,p,q⟩:=d;exact p pins s σ H R I q
def EvI (X:Cx)(α:Ev)(tg e:Expr)(Q:List PyData->Prop):Prop:=∀(F:Fr) (σ:St) (H:Hp) (R:It->Hp->Prop),M F α σ H->
 (∀ds J H',Q ds->zA F H'->Kz F H H'->ItW (λx=>¬Ow F α σ x) J ds (Gz F α σ H')->R J H')->zj4 X tg e σ H R
theorem zF {tg:Expr}{Q:List PyData->Prop}(h:EvD X α e λx=>∃ds,x=.list ds/\Q ds):EvI X α tg e Q:=λF σ H R m k=>by
 refine⟨_,ip zf,?_⟩;refine h F σ H _ m λx t H1 o t1 k1 n=>?_;obtain⟨ds,rfl,q⟩:=o;obtain⟨a,xs,rfl,f,j⟩:=n.lst_inv;refine⟨a,rfl,⟨xs,SqL.of (zb f).2⟩,k ds _ H1 q t1 k1 λi u p s=>⟨λd hd=>?_,λl=>?_⟩⟩
 ·obtain⟨x,g,av⟩:=j.get hd;have ha:=SqL.of (K:=X.K) (zb (s _ _ f)).2;refine⟨⟨xs,x,ha,g⟩,λr H3 y=>?_⟩;obtain⟨e,y⟩:=y;subst e;have:=y xs ha;rw[g]at this;cases this;exact⟨zu.refl _,λ_=>av.same s⟩
 ·exact⟨xs,SqL.of (zb (s _ _ f)).2,by rw[j.length];exact l⟩
theorem qI {p:Addr->Prop}{lo:Int}{n:Nat}{G:Hp}:ItW p (Itr lo n) ((zw lo n).map .int) G:=λi h q s=>⟨λd hd=>by
  rw[zY7,zZ3]at hd;obtain⟨z,f,rfl⟩:=hd;have hi:i<n:=by
   have:=(zY0.mp f).1
   rwa [zl]at this
  rw[yA hi]at f;cases f;refine⟨hi,λx H3 y=>?_⟩;obtain⟨rfl,rfl⟩:=y;exact⟨zu.refl _,λ_=>.int _⟩,λg=>by
  rw[zX8,zl]at g;exact g⟩
theorem uT {tg:Expr}{Q:List PyData->Prop}(hg:Gl X "range")(hm:X.mg "range"=none)(h:EvD X α a λx=>∃j,x=.int j/\-(2 ^ 62)<=j/\j<2 ^ 62/\Q ((zw 0 j.toNat).map .int))(d:starEach [a] X.env=[(false,eval a X.env)]:=by rfl):
  EvI X α tg (.Call (.Name "range" p) [a] [] pos) Q:=λF σ H R m k=>by
 refine⟨_,gH hg hm (zy zf zW d) d,?_⟩;refine h F σ H _ m λx n H1 g t1 k1 l=>?_;obtain⟨j,rfl,i,f,q⟩:=g;cases l.int_inv;exact⟨j,rfl,i,f,k _ _ H1 q t1 k1 qI⟩
theorem vC {tg:Expr}{Q:List PyData->Prop}(hg:Gl X "range")(hm:X.mg "range"=none)(h:EvD X α a λx=>EvD X α b λy=>∃i j,x=.int i/\y=.int j/\(-(2 ^ 62)<=i/\i<2 ^ 62/\-(2 ^ 62)<=j/\j<2 ^ 62)/\Q ((zw i (j-i).toNat).map .int))
  (s:starEach [a,b] X.env=[(false,eval a X.env),(false,eval b X.env)]:=by rfl) (d:starEach [b] X.env=[(false,eval b X.env)]:=by rfl) (f:starEach [a,b] X.env=(false,eval a X.env)::starEach [b] X.env:=by rfl):
  EvI X α tg (.Call (.Name "range" p) [a,b] [] pos) Q:=λF σ H R m k=>by
 refine⟨_,fP hg hm (zy zf (zy zf zW d) f) s d,?_⟩;refine h F σ H _ m λx v H1 n t1 k1 t=>?_;have m1:=m.kz k1 t1;refine n F σ H1 _ m1 λy u l o t2 k2 g=>?_;obtain⟨i,j,rfl,rfl,r,q⟩:=o;cases t.int_inv;cases g.int_inv;exact⟨i,j,rfl,r,k _ _ l q t2 (k1.trans k2) qI⟩
end
inductive Pat where
 |one (i:Nat)
 |many (is:List Nat)
 |nest (i:Nat) (is:List Nat)
def xU :List Nat->List PyData->Ev->Option Ev
 |[],[],α=>some α
 |i::is,d::ds,α=>xU is ds (α.set i (some (.dat d)))
 |_,_,_=>none
def Pat.bind :Pat->PyData->Ev->Option Ev
 |.one i,d,α=>some (α.set i (some (.dat d)))
 |.many is,.tuple ds,α=>xU is ds α
 |.nest i is,.tuple [d,.tuple ds],α=>xU is ds (α.set i (some (.dat d)))
 |_,_,_=>none
def gIs :List Nat->TGs
 |[]=>zC6
 |i::is=>ib (sC i) (gIs is)
def qt (K:PySem.W.Frag):Pat->TG
 |.one i=>sC i
 |.many is=>aE K is.length (gIs is)
 |.nest i is=>aE K 2 (ib (sC i) (ib (aE K is.length (gIs is)) zC6))
def Pat.slots :Pat->List Nat
 |.one i=>[i]
 |.many is=>is
 |.nest i is=>i::is
def isFree (α:Ev)(i:Nat):Bool:=match α[i]? with
 |some none=>true
 |_=>false
def Pat.free (p:Pat)(α:Ev):Bool:=p.slots.all (isFree α)
section
variable {X:Cx}{α α':Ev}{F:Fr}{σ:St}{H:Hp}
theorem M.store {i:Nat}{v:V}{b:A}{H':Hp}(m:M F α σ H)(t:zA F H')(k:Kz F H H')(hn:∀x,foot (some v) b x->H x=none)(hok:xx (sub (λx=>¬Ow F α σ x/\¬foot (some v) b x) H') F H' (some v) b)(N:noX b:=by trivial):M F (α.set i (some b)) (σ.set i (some v)) H':=by
 have P:=m.kz k t;have D:∀{j:Nat} {c:A} {s:Option V},(α.set i (some b))[j]?=some (some c)->(σ.set i (some v))[j]?=some s->(i=j/\c=b/\s=some v)\/(i≠j/\α[j]?=some (some c)/\σ[j]?=some s):=λ{j c s} e1 n=>by
  rcases zz e1 with⟨rfl,z⟩|⟨I,G⟩
  ·cases z;have O:i<σ.length:=by
    have:=(zY0.mp n).1
    rwa [z28]at this
   rw[z81 O]at n;cases n;exact .inl ⟨rfl,rfl,rfl⟩
  ·rw[z53 I]at n;exact .inr ⟨I,G,n⟩
 have ow:∀{y:Addr},Ow F (α.set i (some b)) (σ.set i (some v)) y->Ow F α σ y\/foot (some v) b y:=λ{y} h=>by
  rcases h with z|⟨j,c,s,e1,n,f⟩
  ·exact .inl (.inl z)
  ·rcases D e1 n with⟨_,rfl,rfl⟩|⟨_,g1,g2⟩
   ·exact .inr f
   ·exact .inl (.inr ⟨j,c,s,g1,g2,f⟩)
 have g1:zu (sub (λx=>¬Ow F α σ x/\¬foot (some v) b x) H') (Gz F (α.set i (some b)) (σ.set i (some v)) H'):=zm λa o h e=>⟨λz=>(ow z).elim h.1 h.2,e⟩;have Q:zu (Gz F α σ H) (sub (λx=>¬Ow F α σ x/\¬foot (some v) b x) H'):=zm λa o h e=>⟨⟨h,λz=>by rw[hn a z]at e;cases e⟩,k a o e (m.tp.nt (ow0 h))⟩;refine⟨by rw[z28,z28];exact m.len,λj c s e1 n=>?_,λj E c d s s' x e1 n L J f1 f2=>?_,λj r q e E c s x e1 n f=>?_,t,m.keep.trans k,P.oex⟩
 ·rcases D e1 n with⟨rfl,rfl,rfl⟩|⟨_,p,u⟩
  ·exact hok.stay g1 (λx o f e=>by
    obtain⟨B,C,_⟩:=tY hok f;exact⟨e,B,C⟩) rfl λ_ _ _ l=>l
  ·exact(m.ok j c s p u).stay (Q.trans g1) (λx o f e=>by
    obtain⟨B,C,_⟩:=m.ft p u f;exact⟨k x o e (m.tp.nt B),B,C⟩) rfl λ_ _ _ l=>l.kz k t
 ·have nn:∀{j:Nat} {c:A} {s:Option V},α[j]?=some (some c)->σ[j]?=some s->foot s c x->¬foot (some v) b x:=λ{j c s} p u f g=>by
   obtain⟨_,_,o,w,_⟩:=m.ft p u f;rw[hn x g]at w;cases w
  rcases D e1 L with⟨rfl,rfl,rfl⟩|⟨_,p,u⟩
  ·rcases D n J with⟨rfl,_⟩|⟨_,B,C⟩
   ·rfl
   ·exact absurd f1 (nn B C f2)
  ·rcases D n J with⟨rfl,rfl,rfl⟩|⟨_,B,C⟩
   ·exact absurd f2 (nn p u f1)
   ·exact m.dj j E c d s s' x p B u C f1 f2
 ·rcases zz e with⟨rfl,z⟩|⟨_,K⟩
  ·cases z;exact N.elim
  ·rcases D e1 n with⟨rfl,rfl,rfl⟩|⟨_,p,u⟩
   ·exact(m.lnk K).none (hn x f)
   ·exact m.xd j r q K E c s x p u f
theorem M.set {i:Nat}{v:V}{d:PyData}(m:M F α σ H)(av:AV (Gz F α σ H) v d):M F (α.set i (some (.dat d))) (σ.set i (some v)) H:=
 m.store m.tp Kz.refl (λx z=>z.elim) ⟨v,rfl,av.same (zm λa o h e=>⟨⟨h,λz=>z⟩,e⟩)⟩
theorem M.setC {i:Nat}{v:V}{c:PyData}{H':Hp}(m:M F α σ H)(t:zA F H')(k:Kz F H H')(fl:lX F α σ H v H' c):M F (α.set i (some (.ow c))) (σ.set i (some v)) H':=by
 obtain⟨l,o,rfl,b,g,d⟩:=fl;have nl:¬Ow F α σ l:=m.fresh b;refine m.store t k (λx z=>?_) ⟨l,o,rfl,g,d.same (zm λa o h e=>⟨⟨h.1,λz=>h.2 (by cases z;rfl)⟩,e⟩),ow0 nl,m.fresh0 b⟩;have f:some (V.ref l)=some (.ref x):=z;cases f;exact b
theorem M.setOwn {i:Nat}{v:V}{ds:List PyData}{H':Hp}(m:M F α σ H)(t:zA F H')(k:Kz F H H')(fl:yJ F α σ H v H' ds):M F (α.set i (some (.own ds))) (σ.set i (some v)) H':=m.setC t k fl.c
theorem M.wr {x:Addr}{o:HO}(m:M F α σ H)(hno:wb o)(d:F.O0 x)(v:∀t b c,F.tp=some (t,b,c)->x≠t/\x≠b/\x≠c)(h0:F.H0 x=none)(hpl:Plain H x)(B:∀(i:Nat) r q,α[i]?=some (some (.exc r q))->r.H0 x=none):M F α σ (upd H x o):=by
 have w:zu (Gz F α σ H) (Gz F α σ (upd H x o)):=zm λa u h e=>⟨h,by rw[zc (λz=>h (.inl (by rw[z];exact d)))];exact e⟩;refine⟨m.len,λj c s e1 p=>?_,m.dj,m.xd,m.tp.upd v hpl,λy u e n=>?_,λy hy=>?_⟩
 ·have:=m.ok j c s e1 p;cases c with
  |exc r q=>
   have l:Lnk r F H:=this;exact⟨l.tp,l.o,l.ok.upd (λa b c e=>v a b c (l.tp▸e)) hpl,λy u e n=>by rw[zc (zk e (B j r q e1))];exact l.k y u e n⟩
  |_=>exact this.stay w (λy u f e=>by
    obtain⟨g,C,_⟩:=m.ft e1 p f;exact⟨by rw[zc (λz=>g (by rw[z];exact d))];exact e,g,C⟩) rfl λ_ _ z=>by cases z
 ·rw[zc (zk e h0)];exact m.keep y u e n
 ·by_cases z:y=x
  ·exact⟨o,by rw[z];exact zh,hno⟩
  ·obtain⟨u,A,hn⟩:=m.oex y hy;exact⟨u,by rw[zc z];exact A,hn⟩
theorem M.forget {α0:Ev}(m:M F α σ H)(n:α0.length=α.length)(le:∀(i:Nat) a,α0[i]?=some (some a)->α[i]?=some (some a)):M F α0 σ H:=by
 have ow:∀{y:Addr},Ow F α0 σ y->Ow F α σ y:=λ{y} h=>by
  rcases h with z|⟨j,c,s,e1,b,f⟩
  ·exact .inl z
  ·exact .inr ⟨j,c,s,le _ _ e1,b,f⟩
 have k:zu (Gz F α σ H) (Gz F α0 σ H):=zm λa o h e=>⟨λz=>h (ow z),e⟩;exact⟨n.trans m.len,λj c s e1 b=>(m.ok j c s (le _ _ e1) b).stay k (λx o f e=>⟨e,(m.ft (le _ _ e1) b f).1,(m.ft (le _ _ e1) b f).2.1⟩) rfl λ_ _ _ l=>l,λj g c d s s' x e1 b=>m.dj j g c d s s' x (le _ _ e1) (le _ _ b),λj r q e g c s x e1=>m.xd j r q (le _ _ e) g c s x (le _ _ e1),m.tp,m.keep,m.oex⟩
theorem uK {H:Hp}:∀{is:List Nat}{ds:List PyData}{α α':Ev}{σ:St}{xs:List V}{R:St->Hp->Prop},xU is ds α=some α'->M F α σ H->(∀G,zu (Gz F α σ H) G->AVs G xs ds)->(∀b,M F α' b H->R b H)->gIs is xs σ H R
 |[],[],α,α',σ,xs,R,e,m,av,k=>by
  cases e;cases av _ (zu.refl _);exact⟨rfl,k σ m⟩
 |i::is,d::ds,α,α',σ,xs,R,e,m,av,k=>by
  cases h:av _ (zu.refl _)with
  |@cons x xs _ _ h1 h2=>
   refine⟨x,xs,rfl,?_⟩;have p:zu (Gz F α σ H) (Gz F (α.set i (some (.dat d))) (σ.set i (some x)) H):=zm λa o h e=>⟨λz=>h (by
    rcases z with z|⟨j,c,s,e1,l,f⟩
    ·exact .inl z
    ·rcases zz e1 with⟨_,z⟩|⟨n,g⟩
     ·cases z;exact f.elim
     ·rw[z53 n]at l;exact .inr ⟨j,c,s,g,l,f⟩),e⟩
   exact uK (is:=is) (ds:=ds) e (m.set (i:=i) h1) (λG s=>h2.same (p.trans s)) k
 |[],_::_,_,_,_,_,_,e,_,_,_=>by cases e
 |_::_,[],_,_,_,_,_,e,_,_,_=>by cases e
theorem Pat.nest_inv {i:Nat}{is:List Nat}{d:PyData}(e:(Pat.nest i is).bind d α=some α'):∃a ds,d=.tuple [a,.tuple ds]/\xU is ds (α.set i (some (.dat a)))=some α':=by
 cases d with
 |tuple xs=>
  cases xs with
  |nil=>cases e
  |cons a r=>
   cases r with
   |nil=>cases e
   |cons b r=>
    cases r with
    |nil=>
     cases b with
     |tuple ds=>exact⟨_,_,rfl,e⟩
     |_=>cases e
    |cons _ _=>cases b<;>cases e
 |_=>cases e
theorem qW :∀{is:List Nat}{ds:List PyData}{α α':Ev},xU is ds α=some α'->ds.length=is.length:=by
 intro is
 induction is with
 |nil=>intro ds α α' h;cases ds with|nil=>rfl|cons _ _=>cases h
 |cons i is a=>intro ds α α' h;cases ds with|nil=>cases h|cons d ds=>rw[z00,z00,a h]
theorem pZ {K:PySem.W.Frag}{pat:Pat}{d:PyData}{v:V}{R:St->Hp->Prop}(e:pat.bind d α=some α')(m:M F α σ H)(av:AV (Gz F α σ H) v d)(k:∀g,M F α' g H->R g H):qt K pat v σ H R:=by
 cases pat with
 |one i=>cases e;exact k _ (m.set av)
 |many is=>
  cases d with
  |tuple ds=>
   obtain⟨a,xs,rfl,n,l⟩:=av.tup_inv;exact⟨a,xs,rfl,SqT.of (zb n).2,by rw[l.length];exact qW e,uK e m (λG s=>l.same s) k⟩
  |_=>cases e
 |nest i is=>
  obtain⟨w,ds,rfl,e⟩:=Pat.nest_inv e;obtain⟨a,xs,rfl,n,l⟩:=av.tup_inv;cases l with
  |@cons x0 r _ _ z1 z2=>
   cases z2 with
   |@cons x1 r _ _ z3 z4=>
    cases z4;have m1:=m.set (i:=i) z1;have A:zu (Gz F α σ H) (Gz F (α.set i (some (.dat w))) (σ.set i (some x0)) H):=zm λa o h e=>⟨λz=>h (by
     rcases z with z|⟨j,c,s,e1,t,f⟩
     ·exact .inl z
     ·rcases zz e1 with⟨_,z⟩|⟨u,p⟩
      ·cases z;exact f.elim
      ·rw[z53 u]at t;exact .inr ⟨j,c,s,p,t,f⟩),e⟩
    obtain⟨b,ys,rfl,x,q⟩:=(z3.same A).tup_inv;exact⟨a,_,rfl,SqT.of (zb n).2,rfl,_,_,rfl,_,_,rfl,⟨b,ys,rfl,SqT.of (zb x).2,by rw[q.length];exact qW e,uK e m1 (λG s=>q.same s) λg y=>⟨rfl,k g y⟩⟩⟩
theorem sM :∀{is:List Nat}{ds:List PyData}{α α':Ev},xU is ds α=some α'->α'.length=α.length
 |[],[],_,_,e=>by cases e;rfl
 |i::is,d::ds,α,α',e=>by
  have:=sM (is:=is) (ds:=ds) e
  rwa [z28]at this
 |[],_::_,_,_,e=>by cases e
 |_::_,[],_,_,e=>by cases e
theorem rT :∀{is:List Nat}{ds:List PyData}{α α':Ev}{j:Nat},xU is ds α=some α'->j∉is->α'[j]?=α[j]?
 |[],[],_,_,_,e,_=>by cases e;rfl
 |i::is,d::ds,α,α',j,e,h=>by
  rw[rT (is:=is) (ds:=ds) e λz=>h (zY5 _ z)];exact z53 λ(z:i=j)=>h (by rw[<-z];exact zY9)
 |[],_::_,_,_,_,e,_=>by cases e
 |_::_,[],_,_,_,e,_=>by cases e
theorem sY :∀{is:List Nat}{ds:List PyData}{α α':Ev}{j:Nat}{a:A},xU is ds α=some α'->α'[j]?=some (some a)->(∀d,a≠.dat d)->α[j]?=some (some a)
 |[],[],_,_,_,_,e,h,_=>by cases e;exact h
 |i::is,d::ds,α,α',j,a,e,h,hn=>by
  rcases zz (sY (is:=is) (ds:=ds) e h hn)with⟨_,z⟩|⟨_,z⟩
  ·cases z;exact absurd rfl (hn d)
  ·exact z
 |[],_::_,_,_,_,_,e,_,_=>by cases e
 |_::_,[],_,_,_,_,e,_,_=>by cases e
theorem Pat.is_ok {pat:Pat}{d:PyData}(e:pat.bind d α=some α'):∃is ds,pat.slots=is/\xU is ds α=some α':=by
 cases pat with
 |one i=>cases e;exact⟨_,[d],rfl,rfl⟩
 |many is=>
  cases d with
  |tuple ds=>exact⟨_,ds,rfl,e⟩
  |_=>cases e
 |nest i is=>
  obtain⟨a,ds,rfl,e⟩:=Pat.nest_inv e;exact⟨_,a::ds,rfl,e⟩
theorem Pat.back {pat:Pat}{d:PyData}(e:pat.bind d α=some α')(fr:pat.free α=true)(m:M F α' σ H):M F α σ H:=by
 obtain⟨is,ds,rfl,e⟩:=Pat.is_ok e;refine m.forget (sM e).symm λj a h=>?_;by_cases b:j∈pat.slots
 ·have:=ya5.mp fr j b;unfold isFree at this;rw[h]at this;cases this
 ·rw[rT e b];exact h
end
section
variable {X:Cx}{α:Ev}
def eB (X:Cx)(α:Ev)(ifs:List Expr)(Q:Bool->Prop):Prop:=∀(F:Fr) (σ:St) (H:Hp) (R:Bool->Hp->Prop),M F α σ H->(∀b H',Q b->zA F H'->Kz F H H'->R b H')->∃t,vw X ifs t/\t σ H R
def zx8 (X:Cx)(ifs:List Expr):TT:=λσ H R=>∃t,vw X ifs t/\t σ H R
theorem pE {ifs:List Expr}:vw X ifs (zx8 X ifs):=λpins s σ H Q I a=>by obtain⟨t,p,q⟩:=a;exact p pins s σ H Q I q
theorem kF {Q:Bool->Prop}(q:Q true):eB X α [] Q:=λF σ H R m k=>⟨_,zj5,k _ H q m.tp Kz.refl⟩
theorem xX {c:Expr}{Q:Bool->Prop}(h:EvT X α c Q):eB X α [c] Q:=λF σ H R m k=>⟨_,zh9 xm,h F σ H R m k⟩
def seen :Option A->Option A
 |some (.dat d)=>some (.dat d)
 |some .tape=>some .tape
 |_=>none
def yD (imp:List (Option Nat))(α:Ev):Ev:=imp.map λo=>o.bind λj=>(α[j]?).bind seen
theorem mj {imp:List (Option Nat)}{i:Nat}{a:A}(h:(yD imp α)[i]?=some (some a)):∃j,imp[i]?=some (some j)/\α[j]?=some (some a)/\((∃d,a=.dat d)\/a=.tape):=by
 unfold yD at h;rw[zY7,zZ3]at h;obtain⟨o,e,f⟩:=h;cases o with
 |none=>cases f
 |some j=>
  have c:(α[j]?).bind seen=some a:=f;cases q:α[j]? with
  |none=>rw[q]at c;cases c
  |some b=>
   rw[q]at c;cases b with
   |none=>cases c
   |some b=>
    cases b with
    |dat d=>cases c;exact⟨j,e,q,.inl ⟨d,rfl⟩⟩
    |tape=>cases c;exact⟨j,e,q,.inr rfl⟩
    |_=>cases c
theorem mK {imp:List (Option Nat)}{σ:St}{i j:Nat}{v:V}(b:imp[i]?=some (some j))(a:σ[j]?=some (some v)):(wy imp σ)[i]?=some (some v):=by
 unfold wy;rw[zY7,b];show some ((σ[j]?).bind id)=_;rw[a];rfl
def yZ (Y:Addr->Shared->Hp->List Addr->Cx)(pat:Pat)(ifs:List Expr)(elt:Expr)(α0:Ev):List PyData->List PyData->(List PyData->Prop)->Prop
 |[],acc,Q=>Q acc
 |d::ds,acc,Q=>∃a,pat.bind d α0=some a/\∀C s2 b fp,eB (Y C s2 b fp) a ifs λk=>if k=true then ∀C s2 b fp,EvD (Y C s2 b fp) a elt λy=>yZ Y pat ifs elt α0 ds (acc++[y]) Q else yZ Y pat ifs elt α0 ds acc Q
def eC (Y:Addr->Shared->Hp->List Addr->Cx)(e:Expr):TE:=λσ H Q=>∀C s2 a fp,uz (Y C s2 a fp) e σ H Q
def tsC (Y:Addr->Shared->Hp->List Addr->Cx)(ifs:List Expr):TT:=λσ H Q=>∀C s2 a fp,zx8 (Y C s2 a fp) ifs σ H Q
theorem oO {N:List Str}{imp:List (Option Nat)}{scope:Scope}{tg iter elt:Expr}{ifs:List Expr}{pat:Pat}{Q:List PyData->Prop}(G:pat.free (yD imp α)=true)
  (h:EvI X α tg iter λds=>ds.length<=1000/\yZ (λC s2 A fp=>X.comp N scope C s2 A fp) pat ifs elt (yD imp α) ds [] Q)
  (F:Fr) (σ:St) (H:Hp) (R:VK) (m:M F α σ H) (k:∀ds v H',Q ds->zA F H'->Kz F H H'->yJ F α σ H v H' ds->R v H'):
  ∃Y:Addr->Shared->Hp->List Addr->Cx,Y=(λC s2 A fp=>X.comp N scope C s2 A fp)/\zb4 (zj4 X tg iter) imp (qt X.K pat) (tsC Y ifs) (eC Y elt) σ H R:=by
 refine⟨_,rfl,?_⟩;refine h F σ H _ m λds J H1 a9 t1 k1 b3 acc g=>?_;obtain⟨hl,q1⟩:=a9;have m1:=m.kz k1 t1;have b7:¬Ow F α σ acc:=m1.fresh g
 let u:Fr:=⟨H1,λx=>Ow F α σ x\/x=acc,F.tp⟩
 let Nd:Ev->Prop:=λl=>∀(j:Nat) a,l[j]?=some (some a)->(∃d,a=.dat d)\/a=.tape
 have B:Nd (yD imp α):=λj a z=>by
  obtain⟨_,_,_,n⟩:=mj z;exact n
 have owc:∀{l:Ev} {O:St} {x:Addr},Nd l->(Ow u l O x↔u.O0 x):=λ{l O x} hh=>⟨λz=>z.elim id λb5=>by
  obtain⟨j,a,s,e1,W,f⟩:=b5;rcases hh j a e1 with⟨d,rfl⟩|rfl
  ·exact f.elim
  ·exact f.elim,.inl⟩
 have gz:∀{l a3:Ev} {D τ2:St} {H:Hp},Nd l->Nd a3->zu (Gz u l D H) (Gz u a3 τ2 H):=λh1 h2=>zm λa o h e=>⟨λz=>h ((owc h1).mpr ((owc h2).mp z)),e⟩;have a7:∀{A:Hp},zA F A->zA u A:=λt=>t.to rfl λx z=>.inl (.inl z);have V:zu H1 (upd H1 acc (.lst [])):=zH g;have b1:M u (yD imp α) (wy imp σ) (upd H1 acc (.lst [])):=by
  have g1:zu (Gz F α σ H1) (Gz u (yD imp α) (wy imp σ) (upd H1 acc (.lst []))):=λa o e=>by
   obtain⟨z1,z2⟩:=zb e;have na:a≠acc:=zk z2 g;exact zt (λz=>((owc B).mp z).elim z1 na) (by rw[zc na];exact z2)
  refine⟨by unfold yD wy;rw[zX8,zX8],λi a s e1 W=>?_,λi j a b s t x e1 W _ _ f=>?_,λi r q e=>(by rcases B i _ e with⟨d,w⟩|w<;>cases w),a7 (t1.same V),λx o e _=>V x o e,?_⟩
  ·obtain⟨j,w1,w2,w3⟩:=mj e1;rcases w3 with⟨d,rfl⟩|rfl
   ·obtain⟨v,g2,g3⟩:=m1.dat j d w2;rw[mK w1 g2]at W;cases W;exact⟨v,rfl,g3.same g1⟩
   ·obtain⟨t,b,c,g2,g3⟩:=m1.tvar j w2;rw[mK w1 g3]at W;cases W;exact⟨t,b,c,g2,rfl⟩
  ·rcases B i a e1 with⟨d,rfl⟩|rfl
   ·exact f.elim
   ·exact f.elim
  ·rintro x (z|z)
   ·have:∃o,H1 x=some o/\wb o:=m1.owEx z;obtain⟨o,ho,hn⟩:=this;exact⟨o,V _ _ ho,hn⟩
   ·exact⟨_,by rw[z];exact zh,wu⟩
 refine⟨λi n ys O A=>n=ds.length-i/\i<=ds.length/\∃ad:List PyData,M u (yD imp α) O A/\A acc=some (.lst ys)/\AVs (Gz u (yD imp α) O A) ys ad/\ad.length<=i/\yZ (λC s2 A fp=>X.comp N scope C s2 A fp) pat ifs elt (yD imp α) (ds.drop i) ad Q,
  ⟨ds.length,by simp,zZ6 _,[],b1,zh,.nil,zY3 _,q1⟩,?_⟩
 rintro i n ys O A ⟨rfl,hi,ad,m2,ha,av,had,cw⟩;have sG:zu (Gz F α σ H1) (Gz u (yD imp α) O A):=λa o e=>by
  obtain⟨z1,z2⟩:=zb e;exact m2.old a o (zt (p:=λx=>¬u.O0 x) (λz=>z.elim z1 (zk z2 g)) z2)
 obtain⟨w1,w2⟩:=b3 i A _ sG;by_cases I:i<ds.length
 ·have hd:ds[i]?=some ds[i]:=zY1 I;have b6:ds.drop i=ds[i]::ds.drop (i+1):=z88 I;rw[b6]at cw;obtain⟨l,eb,body⟩:=cw;obtain⟨go,yl⟩:=w1 _ hd;have E:Nd l:=λj a z=>by
   obtain⟨is,ds',_,e⟩:=Pat.is_ok eb;by_cases hn:∀d,a≠.dat d
   ·exact B j a (sY e z hn)
   ·simp only[Classical.not_forall,Classical.not_not]at hn;exact .inl hn
  refine .inr ⟨go,λU T H'=>∃ad:List PyData,M u (yD imp α) T H'/\H' acc=some (.lst U)/\AVs (Gz u (yD imp α) T H') U ad/\ad.length<=i+1/\yZ (λC s2 A fp=>X.comp N scope C s2 A fp) pat ifs elt (yD imp α) (ds.drop (i+1)) ad Q,
   λU T H' b4=>by obtain⟨a6,r1,r2,r3,r4,r5⟩:=b4;exact⟨ds.length-(i+1),(om0 I),rfl,I,a6,r1,r2,r3,r4,r5⟩,λx H3 y=>?_⟩
  obtain⟨L,b0⟩:=yl x H3 y;have m3:M u (yD imp α) O H3:=m2.kz (Kz.of_same L) (m2.tp.same L);have a4:=b0 λa o _ e=>m2.fresh e;refine pZ eb m3 a4 λD m4 C s2 b2 fp=>?_;refine body C s2 b2 fp u D H3 _ m4 λb H5 qb t5 k5=>?_;have m5:=m4.kz k5 t5;have Z:AVs (Gz u (yD imp α) D H5) ys ad:=av.same ((Kz.of_same L).gz m2.tp |>.trans ((gz (τ2:=D) B E).trans ((k5.gz m4.tp).trans (gz E B))));have accN:NT u acc:=⟨λt b c e=>by
   have:=(t1 t b c e).1.free g;exact⟨this.1,this.2.1⟩,uE t1.tab g⟩
  have a1:H5 acc=some (.lst ys):=k5 _ _ (L _ _ ha) accN;cases b with
  |false=>
   have a8:yZ (λC s2 A fp=>X.comp N scope C s2 A fp) pat ifs elt (yD imp α) (ds.drop (i+1)) ad Q:=by simpa using qb
   exact oj ⟨ad,Pat.back eb G m5,a1,Z,(zY8 had (zZ4 _ _)),a8⟩
  |true=>
   refine pR λC s2 P fp=>?_;have qe:EvD (X.comp N scope C s2 P fp) l elt λy=>yZ (λC s2 A fp=>X.comp N scope C s2 A fp) pat ifs elt (yD imp α) (ds.drop (i+1)) (ad++[y]) Q:=by
    have z:=qb;rw[if_pos rfl]at z;exact z C s2 P fp
   refine qe u D H5 _ m5 λy v H6 qy t6 k6 r6=>?_;have m6:=m5.kz k6 t6;have a0:H6 acc=some (.lst ys):=k6 _ _ a1 accN;have hlen:ys.length<=i:=by rw[av.length];exact had
   have S:u.O0 acc:=.inr rfl;have a2:∀t b c,u.tp=some (t,b,c)->acc≠t/\acc≠b/\acc≠c:=λt b c e=>(t1 t b c e).1.free g;have m7:=(Pat.back eb G m6).wr (o:=.lst (ys++[v])) wu S a2 g (qY a0) (λi r q z=>by rcases B i _ z with⟨d,w⟩|w<;>cases w);refine⟨a0,yb (by lia),ad++[y],m7,zh,?_,by simp;exact had,qy⟩;have a5:zu (Gz u (yD imp α) D H6) (Gz u (yD imp α) D (upd H6 acc (.lst (ys++[v])))):=zm λa o h e=>⟨h,by rw[zc (λz=>h (.inl (by rw[z];exact S)))];exact e⟩;exact((Z.same ((gz (τ2:=D) B E).trans ((k6.gz m5.tp).trans (gz E B)))).append (.cons (r6.same (gz E B)) .nil)).same a5
 ·have e:i=ds.length:=(z77 hi (z72 I));subst e;rw[yc5]at cw;refine .inl ⟨w2 (zY3 _),k ad _ A cw ?_ (k1.trans m2.keep) (yJ.back m k1 t1 ⟨acc,ys,rfl,g,ha,av.same (zm λa o h e=>⟨⟨λz=>h (.inl (.inl z)),λz=>h (.inl (.inr z))⟩,e⟩)⟩)⟩;exact m.tp.re m2.tp rfl
theorem zy0 {N:List Str}{imp:List (Option Nat)}{scope:Scope}{tg iter elt:Expr}{ifs:List Expr}{pat:Pat}{Q:List PyData->Prop}{pos:Pos}(d:X.calm=true)(S:zP X.N X.env.scope N imp scope)(b:pat.free (yD imp α)=true)
  (hg:∀C s2 a fp,PG (X.comp N scope C s2 a fp) tg (qt X.K pat))
  (h:EvI X α tg iter λds=>ds.length<=1000/\yZ (λC s2 a fp=>X.comp N scope C s2 a fp) pat ifs elt (yD imp α) ds [] Q) (c:∀x,foldedSetIterable iter X.env x=pure x:=by intro _;rfl):
  EvL X α (.ListComp elt [⟨tg,iter,ifs,0⟩] scope pos) Q:=λF σ H R m k=>by
 obtain⟨Y,rfl,h⟩:=oO b h F σ H R m k;exact⟨_,zP8 d S uw hg (λC s2 a fp pins s σ H Q I h=>pE pins s σ H Q I (h C s2 a fp)) (λC s2 a fp pins s σ H Q I h=>zf pins s σ H Q I (h C s2 a fp)) c,h⟩
section
variable {E:yi}{rest body:List Stmt}{e c tg iter:Expr}{pos p:Pos}
theorem qq.then {F:Fr}{D:Ends}(h:qq F E D):qq F {E with nx:=λa=>SvS X a rest E} {D with nx:=oX X rest D}:=
 ⟨λa b H' m q=>q F b H' D m h,h.rt,h.bk,h.ct⟩
theorem zx (q:E.nx α):SvS X α [] E:=λF σ H D m h=>⟨_,ik,h.nx _ _ _ m q⟩
theorem SvS.imp {d:List Stmt}{b:yi}(h:SvS X α d b)(hn:∀α,b.nx α->E.nx α)(hr:∀a,b.rt a->E.rt a)(hb:∀α,b.bk α->E.bk α)(f:∀α,b.ct α->E.ct α):SvS X α d E:=λF σ H D m r=>
 h F σ H D m ⟨λα σ H m q=>r.nx α σ H m (hn _ q),λa v H m q=>r.rt a v H m (hr _ q),λα σ H m q=>r.bk α σ H m (hb _ q),λα σ H m q=>r.ct α σ H m (f _ q)⟩
theorem zX (i:Nat){x:Str}{pos':Pos}(j:X.N.Nodup)(h:EvD X α e λd=>SvS X (α.set i (some (.dat d))) rest E)(hi:X.N[i]?=some x:=by rfl)(f:Loc X.env.scope x:=by first|exact Or.inl rfl|exact Or.inr rfl)
  (g:swapsWith e (some (.Name x pos')) pos.line X.env=pure false:=by rfl) (hf:X.fn x=true\/X.env.scope.names.lookup x=some .local:=by first|exact .inl rfl|exact .inr rfl|assumption):SvS X α (.Assign [.Name x pos'] e pos::rest) E:=λF σ H D m r=>by
 refine⟨_,zv (uU j hi f zf g hf) zB,?_⟩;exact h F σ H _ m λd v H1 b t1 k1 a=>b F _ H1 D ((m.kz k1 t1).set a) r
theorem yH (i:Nat){x:Str}{pos':Pos}(j:X.N.Nodup)(h:EvL X α e λds=>SvS X (α.set i (some (.own ds))) rest E)(hi:X.N[i]?=some x:=by rfl)(f:Loc X.env.scope x:=by first|exact Or.inl rfl|exact Or.inr rfl)
  (g:swapsWith e (some (.Name x pos')) pos.line X.env=pure false:=by rfl) (hf:X.fn x=true\/X.env.scope.names.lookup x=some .local:=by first|exact .inl rfl|exact .inr rfl|assumption):SvS X α (.Assign [.Name x pos'] e pos::rest) E:=λF σ H D m r=>by
 refine⟨_,zv (uU j hi f zf g hf) zB,?_⟩;exact h F σ H _ m λd v H1 b t1 k1 a=>b F _ H1 D (m.setOwn t1 k1 a) r
theorem zz5 (i:Nat){x:Str}{pos' a:Pos}{N:List Str}{imp:List (Option Nat)}{scope:Scope}{elt:Expr}{ifs:List Expr}{pat:Pat}(n:X.N.Nodup)(l:X.calm=true)(S:zP X.N X.env.scope N imp scope)(d:pat.free (yD imp α)=true)
  (hg:∀C s2 b fp,PG (X.comp N scope C s2 b fp) tg (qt X.K pat))
  (h:EvI X α tg iter λds=>ds.length<=1000/\yZ (λC s2 b fp=>X.comp N scope C s2 b fp) pat ifs elt (yD imp α) ds [] λds=>SvS X (α.set i (some (.own ds))) rest E)
  (hi:X.N[i]?=some x:=by rfl) (g:Loc X.env.scope x:=by first|exact Or.inl rfl|exact Or.inr rfl) (f:swapsWith (.ListComp elt [⟨tg,iter,ifs,0⟩] scope a) (some (.Name x pos')) pos.line X.env=pure true:=by rfl)
  (hf:X.fn x=true\/X.env.scope.names.lookup x=some .local:=by first|exact .inl rfl|exact .inr rfl|assumption) (j:∀x,foldedSetIterable iter X.env x=pure x:=by intro _;rfl):
  SvS X α (.Assign [.Name x pos'] (.ListComp elt [⟨tg,iter,ifs,0⟩] scope a) pos::rest) E:=λF σ H D m r=>by
 obtain⟨Y,rfl,h⟩:=oO d h F σ H (λv H'=>oX X rest D (σ.set i (some v)) H') m λds v H' q t k fl=>q F _ H' D (m.setOwn t k fl) r;exact⟨_,zv (mZ l S uw hg (λC s2 b fp pins s σ H Q I h=>pE pins s σ H Q I (h C s2 b fp)) (λC s2 b fp pins s σ H Q I h=>zf pins s σ H Q I (h C s2 b fp)) n hi g f hf j) zB,h⟩
theorem xB.dat {F:Fr}{σ:St}{H:Hp}{v:V}{d:PyData}(m:M F α σ H)(r:AV (Gz F α σ H) v d):xB F v H (.dat d):=
 ⟨m.tp,m.keep,r.same (zm λa o h e=>⟨ow0 h,e⟩)⟩
theorem xS (h:EvD X α e λd=>E.rt (.dat d)):SvS X α (.Return (some e) pos::rest) E:=λF σ H D m r=>by
 refine⟨_,zv (uZ zf) zB,?_⟩;exact h F σ H _ m λd v H1 a t1 k1 b=>r.rt _ _ _ (xB.dat (m.kz k1 t1) b) a
theorem xp (h:EvL X α e λds=>E.rt (.own ds)):SvS X α (.Return (some e) pos::rest) E:=λF σ H D m r=>by
 refine⟨_,zv (uZ zf) zB,?_⟩;refine h F σ H _ m λd v H1 i t1 k1 k=>r.rt _ _ _ ?_ i;obtain⟨l,xs,f,b,j,g⟩:=k;exact⟨t1,m.keep.trans k1,l,xs,_,f,rfl,m.fresh0 b,ow0 (m.fresh b),j,g.same (zm λa o h e=>⟨⟨ow0 h.1,h.2⟩,e⟩)⟩
theorem wJ (i:Nat){x:Str}{ds:List PyData}(hi:α[i]?=some (some (.own ds)))(q:E.rt (.own ds))(s:X.N[i]?=some x:=by rfl)(j:Vis X.env.scope x:=by first|exact Or.inl rfl|exact Or.inr (Or.inl rfl)|exact Or.inr (Or.inr rfl))
  (hd:(x == ("__debug__":Str))=false:=by decide) (b:(x == ("__classdict__":Str))=false:=by decide):SvS X α (.Return (some (.Name x p)) pos::rest) E:=λF σ H D m r=>by
 obtain⟨l,xs,d,k,g,f,n⟩:=m.own i ds hi;refine⟨_,zv (uZ (yB s j hd b)) zB,.ref l,d,r.rt (.own ds) _ _ ⟨m.tp,m.keep,l,xs,_,rfl,rfl,n,f,k,g.same (zm λa o h e=>⟨⟨ow0 h,λz=>h (by rw[z];exact .inr ⟨i,_,_,hi,d,rfl⟩)⟩,e⟩)⟩ q⟩
theorem zm7 (i:Nat){x:Str}{pos':Pos}(j:X.N.Nodup)(h:EvC X α e λc=>SvS X (α.set i (some (.ow c))) rest E)(hi:X.N[i]?=some x:=by rfl)(f:Loc X.env.scope x:=by first|exact Or.inl rfl|exact Or.inr rfl)
  (g:swapsWith e (some (.Name x pos')) pos.line X.env=pure false:=by rfl) (hf:X.fn x=true\/X.env.scope.names.lookup x=some .local:=by first|exact .inl rfl|exact .inr rfl|assumption):SvS X α (.Assign [.Name x pos'] e pos::rest) E:=λF σ H D m r=>by
 refine⟨_,zv (uU j hi f zf g hf) zB,?_⟩;exact h F σ H _ m λd v H1 b t1 k1 a=>b F _ H1 D (m.setC t1 k1 a) r
theorem wN {a b:List Stmt}(h:EvT X α c λk=>SvS X α (if k=true then a else b) {E with nx:=λd=>SvS X d rest E}):SvS X α (.If c a b pos::rest) E:=λF σ H D m r=>by
 refine⟨_,zv (zw2 xm zB zB) zB,?_⟩;refine h F σ H _ m λk H1 f t1 k1=>?_;cases k with
 |true=>exact pR ((by simpa using f:SvS X α a _) F σ H1 _ (m.kz k1 t1) r.then)
 |false=>exact oj ((by simpa using f:SvS X α b _) F σ H1 _ (m.kz k1 t1) r.then)
theorem rg (i:Nat){ds:List PyData}{a:List Stmt}(hi:α[i]?=some (some (.own ds)))(h:SvS X (α.set i (some (.dat (.list ds)))) a E):SvS X α a E:=λF σ H D m r=>h F σ H D (m.frz hi) r
theorem M.wrC {F:Fr}{σ:St}{H:Hp}{i:Nat}{c c':PyData}{l:Addr}{o':HO}(m:M F α σ H)(hi:α[i]?=some (some (.ow c)))(v:σ[i]?=some (some (.ref l)))(av:yE (Gz F α σ H) o' c'):
  M F (α.set i (some (.ow c'))) σ (upd H l o'):=by
 obtain⟨Y,o,N,R,O,G,S⟩:=m.owc i c hi;rw[v]at N;cases N;have B:∀{j:Nat} {a:A} {s:Option V},(α.set i (some (.ow c')))[j]?=some (some a)->σ[j]?=some s->(i=j/\a=.ow c'/\s=some (.ref l))\/(i≠j/\α[j]?=some (some a)):=λ{j a s} e1 g=>by
  rcases zz e1 with⟨rfl,z⟩|⟨C,d⟩
  ·cases z;rw[v]at g;cases g;exact .inl ⟨rfl,rfl,rfl⟩
  ·exact .inr ⟨C,d⟩
 have K:∀{y:Addr},Ow F (α.set i (some (.ow c'))) σ y->Ow F α σ y:=λ{y} h=>by
  rcases h with z|⟨j,a,s,e1,g,f⟩
  ·exact .inl z
  ·rcases B e1 g with⟨rfl,rfl,rfl⟩|⟨C,d⟩
   ·exact .inr ⟨i,_,_,hi,v,f⟩
   ·exact .inr ⟨j,a,s,d,g,f⟩
 have ol:Ow F α σ l:=.inr ⟨i,_,_,hi,v,rfl⟩;have P:zu (Gz F α σ H) (Gz F (α.set i (some (.ow c'))) σ (upd H l o')):=zm λa o h e=>⟨λz=>h (K z),by rw[zc (λz=>h (by rw[z];exact ol))];exact e⟩;refine⟨by rw[z28];exact m.len,λj a s e1 g=>?_,λj D a b s t x e1 g L I f1 f2=>?_,λj r q e D a s x e1 g f=>?_,m.tp.updO G (O.plain R),λy o e n=>?_,λy hy=>?_⟩
 ·rcases B e1 g with⟨rfl,rfl,rfl⟩|⟨C,d⟩
  ·exact⟨l,o',rfl,zh,av.same P,G,S⟩
  ·refine(m.ok j a s d g).stay P (λy u f e=>?_) rfl λr q T k=>⟨k.tp,k.o,k.ok.updO (λz=>G (k.o _ z)) (O.plain R),λy u e n=>?_⟩
   ·obtain⟨U,W,_⟩:=m.ft d g f;refine⟨?_,U,W⟩;rw[zc λz=>C (m.dj i j _ a _ s l hi d v g rfl (by rw[<-z];exact f))];exact e
   ·rw[zc (zk e (m.xd j r q (by rw[<-T];exact d) i _ _ l hi v rfl))];exact k.k y u e n
 ·rcases B e1 L with⟨rfl,rfl,rfl⟩|⟨C,d⟩
  ·rcases B g I with⟨rfl,_⟩|⟨J,w⟩
   ·rfl
   ·exact m.dj i D _ b _ t x hi w v I f1 f2
  ·rcases B g I with⟨rfl,rfl,rfl⟩|⟨J,w⟩
   ·exact m.dj j i a _ s _ x d hi L v f1 f2
   ·exact m.dj j D a b s t x d w L I f1 f2
 ·rcases zz e with⟨_,z⟩|⟨_,Q⟩
  ·cases z
  ·rcases B e1 g with⟨rfl,rfl,rfl⟩|⟨_,d⟩
   ·exact m.xd j r q Q i _ _ x hi v f
   ·exact m.xd j r q Q D a s x d g f
 ·rw[zc (zk e S)];exact m.keep y o e n
 ·rw[zc (λz=>G (by rw[<-z];exact hy))];exact m.oex y hy
theorem M.wrOwn {F:Fr}{σ:St}{H:Hp}{i:Nat}{ds a:List PyData}{l:Addr}{ys:List V}(m:M F α σ H)(hi:α[i]?=some (some (.own ds)))(b:σ[i]?=some (some (.ref l)))(av:AVs (Gz F α σ H) ys a):
  M F (α.set i (some (.own a))) σ (upd H l (.lst ys)):=m.wrC hi b (.lst av)
theorem vG (i:Nat){x:Str}{ds:List PyData}{p1 p2 p3:Pos}(hi:α[i]?=some (some (.own ds)))(h:EvD X α e λd=>ds.length<1000/\SvS X (α.set i (some (.own (ds++[d])))) rest E)
  (w:X.N[i]?=some x:=by rfl) (u:Vis X.env.scope x:=by first|exact Or.inl rfl|exact Or.inr (Or.inl rfl)|exact Or.inr (Or.inr rfl)) (hd:(x == ("__debug__":Str))=false:=by decide) (g:(x == ("__classdict__":Str))=false:=by decide)
  (b:attributeBase (.Name x p1) "append" X.env (eval (.Name x p1) X.env)=eval (.Name x p1) X.env:=by rfl) (k:starEach [e] X.env=(false,eval e X.env)::starEach [] X.env:=by rfl)
  (hpl:((((backTo p3 (starEach [e] X.env)).all λx=>!x.fst)&&(backToKw p3 (keywordEach [] X.env)).all λx=>x.fst.isSome)&&decide (([e].length+([]:List Keyword).length+if([]:List Keyword).isEmpty=true then 0 else 1)<30))=true:=by rfl)
  (a:(p2.endLine == p3.line)=true:=by rfl) (f:swapsWith (.Call (.Attribute (.Name x p1) "append" p2) [e] [] p3) none pos.line X.env=pure false:=by rfl):SvS X α (.Expr (.Call (.Attribute (.Name x p1) "append" p2) [e] [] p3) pos::rest) E:=λF σ H D m r=>by
 obtain⟨l,xs,j,q,n,t,y⟩:=m.own i ds hi;refine⟨_,zv (pP (dO yf0 PySem.F.slot_list_append PySem.F.type_list_append qA (yB w u hd g) (zy zf zW k) b hpl a k) f) zB,?_⟩;refine⟨.ref l,j,.inl ⟨rfl,_,SqL.of q⟩,?_⟩;refine h F σ H _ m λd v H1 o t1 k1 s=>?_;have m1:=m.kz k1 t1;refine⟨l,xs,v,rfl,rfl,k1 _ _ q (m.tp.nt t),by rw[n.length];exact yb (z30 o.1),?_⟩;exact o.2 F σ _ D (m1.wrOwn hi j ((n.same (k1.gz m.tp)).append (.cons s .nil))) r
theorem we (i:Nat){x:Str}{ds:List PyData}{p1 p2 p3:Pos}(hi:α[i]?=some (some (.own ds)))(h:EvD X α e λd=>∃g,d=.list g/\ds.length+g.length<=1000/\SvS X (α.set i (some (.own (ds++g)))) rest E)
  (B:X.N[i]?=some x:=by rfl) (A:Vis X.env.scope x:=by first|exact Or.inl rfl|exact Or.inr (Or.inl rfl)|exact Or.inr (Or.inr rfl)) (hd:(x == ("__debug__":Str))=false:=by decide) (k:(x == ("__classdict__":Str))=false:=by decide)
  (f:attributeBase (.Name x p1) "extend" X.env (eval (.Name x p1) X.env)=eval (.Name x p1) X.env:=by rfl) (o:starEach [e] X.env=(false,eval e X.env)::starEach [] X.env:=by rfl)
  (hpl:((((backTo p3 (starEach [e] X.env)).all λx=>!x.fst)&&(backToKw p3 (keywordEach [] X.env)).all λx=>x.fst.isSome)&&decide (([e].length+([]:List Keyword).length+if([]:List Keyword).isEmpty=true then 0 else 1)<30))=true:=by rfl)
  (a:(p2.endLine == p3.line)=true:=by rfl) (j:swapsWith (.Call (.Attribute (.Name x p1) "extend" p2) [e] [] p3) none pos.line X.env=pure false:=by rfl):SvS X α (.Expr (.Call (.Attribute (.Name x p1) "extend" p2) [e] [] p3) pos::rest) E:=λF σ H D m r=>by
 obtain⟨l,xs,n,t,s,y,C⟩:=m.own i ds hi;refine⟨_,zv (pP (dO yf0 PySem.F.slot_list_extend PySem.F.type_list_extend fq (yB B A hd k) (zy zf zW o) f hpl a o) j) zB,?_⟩;refine⟨.ref l,n,.inl ⟨rfl,_,SqL.of t⟩,?_⟩;refine h F σ H _ m λd v H1 z t1 k1 w=>?_;have m1:=m.kz k1 t1;obtain⟨g,rfl,u,q⟩:=z;obtain⟨b,ys,rfl,g1,g2⟩:=w.lst_inv;refine⟨l,b,xs,ys,rfl,rfl,k1 _ _ t (m.tp.nt y),(zb g1).2,by rw[s.length,g2.length];exact z30 (yb u),?_⟩;exact q F σ _ D (m1.wrOwn hi n ((s.same (k1.gz m.tp)).append g2)) r
theorem zC3 (i:Nat){x:Str}{a:Expr}{ds:List PyData}{p1 p2:Pos}(hi:α[i]?=some (some (.own ds)))(h:EvD X α e λd=>EvD X α a λy=>∃k j,y=.int k/\ixN ds.length k=some j/\SvS X (α.set i (some (.own (ds.set j d)))) rest E)
  (K:X.N[i]?=some x:=by rfl) (I:Vis X.env.scope x:=by first|exact Or.inl rfl|exact Or.inr (Or.inl rfl)|exact Or.inr (Or.inr rfl)) (hd:(x == ("__debug__":Str))=false:=by decide) (A:(x == ("__classdict__":Str))=false:=by decide)
  (t:swapsWithSole [.Subscript (.Name x p1) a p2] e pos.line X.env=pure false:=by rfl) (hw:swappedStores [.Subscript (.Name x p1) a p2] e X.env=pure none:=by rfl)
  (ha:(assignEach [.Subscript (.Name x p1) a p2] X.env).map (·.2)=[assign (.Subscript (.Name x p1) a p2) X.env]:=by rfl) (b:PG X (.Subscript (.Name x p1) a p2) (zJ9 (zB3 i) (uz X a) zu8):=by exact jw (yB rfl (by first|exact Or.inl rfl|exact Or.inr (Or.inl rfl)|exact Or.inr (Or.inr rfl))) zf set_list):
  SvS X α (.Assign [.Subscript (.Name x p1) a p2] e pos::rest) E:=λF σ H D m r=>by
 obtain⟨l,xs,f,B,g,n,J⟩:=m.own i ds hi;refine⟨_,zv (jc zf b t hw ha) zB,?_⟩;refine h F σ H _ m λd v H1 w t1 k1 u=>?_;have m1:=m.kz k1 t1;refine⟨.ref l,f,?_⟩;refine w F σ H1 _ m1 λy C G z t2 k2 o=>?_;have m2:=m1.kz k2 t2;obtain⟨k,j,rfl,s,q⟩:=z;cases o.int_inv;refine⟨l,xs,k,j,rfl,rfl,k2 _ _ (k1 _ _ B (m.tp.nt n)) (m.tp.nt n),by rw[g.length];exact s,?_⟩;exact q F σ _ D (m2.wrOwn hi f (((g.same (k1.gz m.tp)).same (k2.gz m1.tp)).set (u.same (k2.gz m1.tp)) j)) r
def wM (X:Cx)(pat:Pat)(body rest:List Stmt)(E:yi):List PyData->Ev->Prop
 |[],α=>SvS X α rest E
 |d::ds,α=>∃a,pat.bind d α=some a/\SvS X a body {nx:=wM X pat body rest E ds,ct:=wM X pat body rest E ds,bk:=λb=>SvS X b rest E,rt:=E.rt}
theorem lO {pat:Pat}(I:PassesOwn (model X.prog X.w) X.A X.env X.xe)(P:X.calm=true)(hg:PG X tg (qt X.K pat))(h:EvI X α tg iter λds=>wM X pat body rest E ds α)
  (O:∀x,foldedSetIterable iter X.env x=pure x:=by intro _;rfl):SvS X α (.For tg iter body [] pos::rest) E:=λF σ H D m r=>by
 refine⟨_,zv (eY I P uw hg zB O) zB,?_⟩;refine h F σ H _ m λds J H1 T t1 k1 z=>?_;have m1:=m.kz k1 t1;have U:=m1.up;have u:qq (F.up (Gz F α σ H1)) E D:=r.up;refine⟨λi n j H'=>n=ds.length-i/\i<=ds.length/\∃b,M (F.up (Gz F α σ H1)) b j H'/\wM X pat body rest E (ds.drop i) b,⟨ds.length,by simp,zZ6 _,α,U,T⟩,?_⟩;rintro i n j H' ⟨rfl,hi,b,t,lw⟩;obtain⟨L,Q⟩:=z i H' _ (m1.upold t);by_cases d:i<ds.length
 ·have hd:ds[i]?=some ds[i]:=zY1 d;rw[z88 d]at lw;obtain⟨N,V,body⟩:=lw;obtain⟨go,R⟩:=L _ hd;refine .inr ⟨go,λg l=>∃b,M (F.up (Gz F α σ H1)) b g l/\wM X pat _ rest E (ds.drop (i+1)) b,λg l ⟨k,S,G⟩=>⟨ds.length-(i+1),(om0 d),rfl,d,k,S,G⟩,λx H3 y=>?_⟩;obtain⟨s,v⟩:=R x H3 y;have m3:=t.kz (Kz.of_same s) (t.tp.same s);refine pZ V m3 (v λa o _ e=>t.fresh e) λC m4=>?_;exact body _ C H3 _ m4 ⟨λf σ2 B m2 q=>⟨f,m2,q⟩,u.rt,λf σ2 B m2 q=>q _ σ2 B D m2 u,λf σ2 B m2 q=>⟨f,m2,q⟩⟩
 ·have e:i=ds.length:=(z77 hi (z72 d));subst e;rw[yc5]at lw;exact .inl ⟨Q (zY3 _),lw _ j H' D t u⟩
theorem zK {pat:Pat}{ds:List PyData}(P:Nat->Ev->Prop)(h0:P 0 α)(j:∀i d α,ds[i]?=some d->P i α->∃a,pat.bind d α=some a/\SvS X a body {nx:=P (i+1),ct:=P (i+1),bk:=λg=>SvS X g rest E,rt:=E.rt})
  (hd:∀α,P ds.length α->SvS X α rest E):wM X pat body rest E ds α:=by
 have key:∀n i α,n=ds.length-i->i<=ds.length->P i α->wM X pat body rest E (ds.drop i) α:=by
  intro n
  induction n with
  |zero=>
   intro i α hn hi p;have e:i=ds.length:=(om5 hn hi);subst e;rw[yc5];exact hd α p
  |succ n h=>
   intro i α hn hi p;have f:i<ds.length:=(om6 hn);rw[z88 f];obtain⟨a,e,b⟩:=j i ds[i] α (zY1 f) p;exact⟨a,e,b.imp (λα p=>h (i+1) α (om7 hn) f p) (λ_ z=>z) (λ_ z=>z) (λα p=>h (i+1) α (om7 hn) f p)⟩
 exact key _ 0 α rfl (zZ6 _) h0
end
end
section
variable {P:Program}{w:World}{K:PySem.W.Frag}{mg:Str->Option Value}{base:Heap}
theorem M.start {F:Fr}{N:List Str}{vs:List V}{as:List A}{H:Hp}(e:F.H0=H)(t:zA F H)(o:∀x,F.O0 x->∃u,H x=some u/\wb u)(m:zT F (sub (λx=>¬F.O0 x) H) vs as):
  M F (as.map some++List.replicate (N.length-as.length) none) (L2.start N vs) H:=by
 have B:=m.length;have g:∀{i:Nat} {a:A},(as.map some++List.replicate (N.length-as.length) none)[i]?=some (some a)->as[i]?=some a:=λ{i a} h=>by
  rcases z96 i as.length with z|z
  ·rw[z22 (by rw[zX8];exact z),zY7,zZ3]at h;obtain⟨b,l,k⟩:=h;cases k;exact l
  ·rw[z38 (by rw[zX8];exact z),z61]at h;split at h<;>cases h
 have at':∀{vs:List V} {as:List A} {i:Nat} {a:A},zT F (sub (λx=>¬F.O0 x) H) vs as->as[i]?=some a->∃v,vs[i]?=some v/\fG F (sub (λx=>¬F.O0 x) H) v a:=by
  intro vs as i a h
  induction h generalizing i with
  |nil=>intro e;simp at e
  |cons h r E=>
   intro e;cases i with
   |zero=>simp at e;subst e;exact⟨_,rfl,h⟩
   |succ i=>obtain⟨v,l,k⟩:=E (by simpa using e);exact⟨v,by simpa using l,k⟩
 have C:∀{i:Nat} {v:V},vs[i]?=some v->(L2.start N vs)[i]?=some (some v):=λ{i v} h=>by
  have hi:i<vs.length:=(zY0.mp h).1;unfold L2.start;rw[z22 (by rw[zX8];exact hi),zY7,h];rfl
 have no:∀(i:Nat) a,(as.map some++List.replicate (N.length-as.length) none)[i]?=some (some a)->(∃d,a=.dat d)\/a=.tape:=λi a z=>by
  obtain⟨v,_,h⟩:=at' m (g z);cases a with
  |dat d=>exact .inl ⟨d,rfl⟩
  |tape=>exact .inr rfl
  |_=>exact h.elim
 have D:zu (sub (λx=>¬F.O0 x) H) (Gz F (as.map some++List.replicate (N.length-as.length) none) (L2.start N vs) H):=zm λa o h e=>⟨λz=>z.elim h λn=>by
  obtain⟨i,b,s,e1,_,f⟩:=n;rcases no i b e1 with⟨d,rfl⟩|rfl
  ·exact f.elim
  ·exact f.elim,e⟩
 refine⟨by unfold L2.start;simp[B],λi a s e1 p=>?_,λi j a b s t x e1 _ _ _ f=>?_,λi r q z=>(by rcases no i _ z with⟨d,w⟩|w<;>cases w),t,λx o' h _=>by rw[<-e];exact h,o⟩
 ·obtain⟨v,l,k⟩:=at' m (g e1);rw[C l]at p;cases p;rcases no i a e1 with⟨d,rfl⟩|rfl
  ·exact⟨v,rfl,AV.same D k⟩
  ·obtain⟨t',b,c,y,rfl⟩:=k;exact⟨t',b,c,y,rfl⟩
 ·rcases no i a e1 with⟨d,rfl⟩|rfl
  ·exact f.elim
  ·exact f.elim
theorem fnA {x qual:Str}{st:Stmt}{f:Addr}{fd:FuncData}{N ps:List Str}{k:Nat}{φ:List A->(A->Prop)->Prop}(G:Fun K x qual st f fd)(S:zI N ps (zd st))(hlen:∀as Q,φ as Q->as.length=ps.length)
  (c:∀(cdv:Value) (d:Around) (outer:List Env) (s:Shared) (H:Hp) (E:XK) (as:List A) (Q:A->Prop),zG k (d.deeper (envOfC qual (zd st) s.heap.objs.size f cdv))->φ as Q->
   SvS (xr CX0 P w K mg base N qual (zd st) f cdv d outer s H E).nox (as.map some++List.replicate (N.length-as.length) none) (zr st) {nx:=λ_=>Q (.dat .none),rt:=Q}):yv P w K mg base CX0 (k+1) f fd ps (spA φ):=by
 refine G.ok S (λvs H Q E h=>?_) (λcdv d outer s H vs l E hr h=>?_)
 ·obtain⟨F,as,j,_,_,_,g,b,_⟩:=h;rw[g.length,hlen as _ b]
 ·obtain⟨F,as,j,e,t,o,g,b,i⟩:=h;refine c cdv d outer s H E as j hr b F _ H _ (M.start e t o g) ⟨λα σ H' m q=>?_,λa v H' r q=>i a v H' q r,λ_ _ _ _ z=>z.elim,λ_ _ _ _ z=>z.elim⟩;exact i _ _ _ q ⟨m.tp,m.keep,.non⟩
end
section
variable {X:Cx}{pins:List (Addr×Obj)}{σ:St}{H:Hp}{s:Shared}{h':Heap}
theorem Inv.turnL {t':Nat}{ch:List Addr}(I:Inv X pins σ H s)(k:∀b o,b∉ch->s.heap.get? b=some o->h'.get? b=some o)(hf:∀b∈ch,yW X pins H b):Inv X pins σ H {s with heap:=h',toks:=t'}:=by
 have d:∀b u,H b=some u->b∉ch:=λb u e z=>by rw[(hf b z).1]at e;cases e
 refine I.step (g':=s.gens) (d':=s.drawn) (ch:=ch) (λb hb=>?_) (λb o _ _ a e _=>k b o a e) (λb o _ _ a e _=>⟨o.slots,k b o a e⟩) (λ_ _ _ _ n=>n)
  (λb o a e=>⟨o,k b o a e⟩) (λ_ _ e=>e) (λ_ _ _ e=>e) (λb ps e=>⟨#[],by rw[e];simp⟩) (λm hm=>?_) (λb u e=>?_) I.bare
 ·obtain⟨_,f1,_,f,f4,h⟩:=hf b hb;exact⟨f,f1,f4,h⟩
 ·obtain⟨o,i,j,g,r⟩:=hm;exact⟨o,i,j,k _ o (λz=>(hf _ z).2.1 rfl) g,r⟩
 ·refine(I.hok b u e).stay (λc v a q=>k c v ?_ q) (λ_ q=>q) λ_ _ q=>q;rcases a with z|z
  ·rw[z];exact d b u e
  ·exact d c _ z
theorem Inv.turnLay {t':Nat}{ch:List Addr}{T:Addr}{o:HO}(I:Inv X pins σ H s)(k:∀b o,b∉ch->s.heap.get? b=some o->h'.get? b=some o)(hf:∀b∈ch,yW X pins H b)(hT:s.heap.objs.size<=T)(new:zD X.prog X.w (upd H T o) h' T o):
  Inv X pins σ (upd H T o) {s with heap:=h',toks:=t'}:=by
 have d:∀b u,H b=some u->b∉ch:=λb u e z=>by rw[(hf b z).1]at e;cases e
 have hn:H T=none:=I.hok.fresh hT;have lt:∀{b:Addr} {u:Obj},s.heap.get? b=some u->b≠T:=λe=>z01 (zX9 (zY6 e) hT);refine I.step (g':=s.gens) (d':=s.drawn) (ch:=ch) (λb hb=>?_) (λb o _ _ a e _=>k b o a e) (λb o _ _ a e _=>⟨o.slots,k b o a e⟩) (λb u _ e n=>by rw[zc (lt e)];exact n)
  (λb o a e=>⟨o,k b o a e⟩) (λb xs e=>by rw[zc (zk e hn)];exact e) (λb u xs e=>by rw[zc (zk e hn)];exact e) (λb ps e=>⟨#[],by rw[zc (zk e hn),e];simp⟩) (λm hm=>?_) (λb u e=>?_) I.bare
 ·obtain⟨_,f1,_,f,f4,h⟩:=hf b hb;exact⟨f,f1,f4,h⟩
 ·obtain⟨o,i,j,g,r⟩:=hm;exact⟨o,i,j,k _ o (λz=>(hf _ z).2.1 rfl) g,r⟩
 ·by_cases hb:b=T
  ·subst hb;rw[zh]at e;cases e;exact new
  ·rw[zc hb]at e;refine(I.hok b u e).stay (λc v a q=>k c v ?_ q) (λc q=>by rw[zc (zk q hn)];exact q) λc xs q=>by rw[zc (zk q hn)];exact q
   rcases a with z|z
   ·rw[z];exact d b u e
   ·exact d c _ z
end
theorem uh {a b:Nat}(h:a<b):(a:Addr)≠b:=z01 h
theorem bF {a b:Nat}(h:b<a):(a:Addr)≠b:=z70 h
theorem gL (n l1 l2:Nat)(d:l1<n)(c:l2<n):ZipApart (n+4) (n+2) (n+3) n (n+1) l1 l2 where
 TIz:=uh (a:=n+2) (b:=n+4) (by lia)
 TOz:=uh (a:=n+3) (b:=n+4) (by lia)
 i1z:=uh (a:=n) (b:=n+4) (by lia)
 i2z:=uh (a:=n+1) (b:=n+4) (by lia)
 TITO:=uh (a:=n+2) (b:=n+3) (by lia)
 TIi1:=bF (a:=n+2) (b:=n) (by lia)
 TIi2:=bF (a:=n+2) (b:=n+1) (by lia)
 TOi1:=bF (a:=n+3) (b:=n) (by lia)
 TOi2:=bF (a:=n+3) (b:=n+1) (by lia)
 i12:=uh (a:=n) (b:=n+1) (z56 _)
 l1z:=uh (a:=l1) (b:=n+4) (zX9 d (zZ4 _ _))
 l1TO:=uh (a:=l1) (b:=n+3) (zX9 d (zZ4 _ _))
 l1i1:=uh (a:=l1) (b:=n) (d)
 l1i2:=uh (a:=l1) (b:=n+1) (zX9 d (zZ4 _ _))
 l2z:=uh (a:=l2) (b:=n+4) (zX9 c (zZ4 _ _))
 l2TO:=uh (a:=l2) (b:=n+3) (zX9 c (zZ4 _ _))
 l2i1:=uh (a:=l2) (b:=n) (c)
 l2i2:=uh (a:=l2) (b:=n+1) (zX9 c (zZ4 _ _))
def Itz (K:PySem.W.Frag)(l1 l2:Addr):It:=
 ⟨λi H=>∃xs ys x y,SqL K H l1 xs/\SqL K H l2 ys/\xs[i]?=some x/\ys[i]?=some y,
  λi H v H'=>∃T x y,v=.ref T/\H T=none/\H'=upd H T (.tup [x,y])/\(∀xs,SqL K H l1 xs->xs[i]?=some x)/\∀ys,SqL K H l2 ys->ys[i]?=some y,
  λi H=>∃xs ys,SqL K H l1 xs/\SqL K H l2 ys/\(xs.length<=i\/ys.length<=i)⟩
def Ite (K:PySem.W.Frag)(l:Addr):It:=
 ⟨λi H=>∃xs x,SqL K H l xs/\xs[i]?=some x,
  λi H v H'=>∃T x,v=.ref T/\H T=none/\H'=upd H T (.tup [.int i,x])/\∀xs,SqL K H l xs->xs[i]?=some x,
  λi H=>∃xs,SqL K H l xs/\xs.length<=i⟩
theorem ze0 {P:Program}{w:World}{K:PySem.W.Frag}{elts:List Expr}{Z:Nat}{pos:Pos}{z TI TO i1 i2 l1 l2:Addr}(D:ZipApart z TI TO i1 i2 l1 l2):
  Turn P w K (.Tuple elts Z pos) (Itz K l1 l2) [z,TI,TO,i1,i2] z (λi h=>IsZip h z TI TO .none/\IsPair h TI (.ref i1) (.ref i2)/\(∃a b,IsPair h TO a b)/\h.IsListIter i1 l1 i/\h.IsListIter i2 l2 i) where
 mem:=by simp
 obj:=λi h st b hb=>by
  obtain⟨d,f,⟨a,c,l⟩,⟨U,e1,_,d1⟩,⟨V,t,_,d2⟩⟩:=st;simp only[zY2,zZ8,z33]at hb;rcases hb with rfl|rfl|rfl|rfl|rfl
  ·exact⟨_,d,λv z=>by cases(show Data.fields _=Data.cell v from z)⟩
  ·exact⟨_,f,λv z=>by cases(show Data.seq _ _=Data.cell v from z)⟩
  ·exact⟨_,l,λv z=>by cases(show Data.seq _ _=Data.cell v from z)⟩
  ·exact⟨U,e1,λv z=>by rw[d1]at z;cases z⟩
  ·exact⟨V,t,λv z=>by rw[d2]at z;cases z⟩
 keep:=λi h h' st k=>by
  obtain⟨d,f,⟨a,c,l⟩,r,q⟩:=st;exact⟨k z (by simp) _ d,k TI (by simp) _ f,⟨a,c,k TO (by simp) _ l⟩,r.at λo e=>k i1 (by simp) o e,q.at λo e=>k i2 (by simp) o e⟩
 item:=by
  intro X M hw hK S i pins s σ H E I hf st hg;subst M hw hK;obtain⟨xs,ys,x,y,j,g,R,hy⟩:=hg;obtain⟨B,m,p1,O⟩:=I.list j;obtain⟨F,n,p2,G⟩:=I.list g;obtain⟨u,hu,ru⟩:=m.get R;obtain⟨v,hv,Y⟩:=n.get hy;obtain⟨d,f,⟨a,c,l⟩,r,q⟩:=st;refine wpAny_pyNext_zip_item D d f l r q p1.isList p2.isList (x:=u) (y:=v) (by simpa using hu) (by simpa using hv) λh' a1 a2 a3 a4 a5 a6 hk=>⟨_,rfl,?_⟩;refine wpAny_letOwnedTupleGo_zip (s:={s with heap:=h'}) a1 λC b1 p=>?_;have N:s.heap.objs.size≠z:=z70 (zY6 d);have L:∀b o,b∉[z,TI,TO,i1,i2]->s.heap.get? b=some o->C.get? b=some o:=λb o hb e=>by
   simp only[zY2,zZ8,z33,not_or]at hb;exact p.extBut _ _ hb.1 (hk b o hb.1 hb.2.2.1 hb.2.2.2.1 hb.2.2.2.2 e)
  have gT:C.get? s.heap.objs.size=some {cls:=.type "tuple",data:=.seq #[u,v]}:=p.extBut _ _ N a5;have J:=I.turnLay (t':=s.toks) (T:=s.heap.objs.size) (o:=.tup [x,y]) L hf (zY3 _) ⟨by show 2<=sizeLine;decide,[u,v],.cons ru (.cons Y .nil),_,gT,rfl,0,rfl⟩;refine⟨.ref s.heap.objs.size,_,J,rfl,⟨_,x,y,rfl,I.hok.fresh (zY3 _),rfl,λzs hz=>by rw[I.list_inj hz j];exact R,λzs hz=>by rw[I.list_inj hz g];exact hy⟩,⟨b1,p.extBut _ _ D.TIz (hk _ _ D.TIz D.TITO D.TIi1 D.TIi2 f),⟨u,v,p.extBut _ _ D.TOz a2⟩,a3.extBut p.extBut D.i1z,a4.extBut p.extBut D.i2z⟩,λb hb=>?_⟩;rw[zc]
  ·exact(hf b hb).1
  ·obtain⟨o,e,_⟩:=(show ∃o,s.heap.get? b=some o/\True from by
    simp only[zY2,zZ8,z33]at hb;obtain⟨U,e1,_⟩:=r;obtain⟨V,t,_⟩:=q;rcases hb with rfl|rfl|rfl|rfl|rfl
    ·exact⟨_,d,trivial⟩
    ·exact⟨_,f,trivial⟩
    ·exact⟨_,l,trivial⟩
    ·exact⟨_,e1,trivial⟩
    ·exact⟨_,t,trivial⟩)
   exact z01 (zY6 e)
 done:=by
  intro X M hw hK S i pins s σ H E I hf st hg;subst M hw hK;obtain⟨xs,ys,j,g,hl⟩:=hg;obtain⟨B,m,p1,O⟩:=I.list j;obtain⟨F,n,p2,G⟩:=I.list g;obtain⟨d,f,⟨a,c,l⟩,r,q⟩:=st;have e1:=m.length;have t:=n.length;refine wpAny_pyNext_zip_end (I.ok.hd S) D d f l r q p1.isList p2.isList (hl.imp (λz=>by simp;exact zY8 (zZ7 e1.symm) z) λz=>by simp;exact zY8 (zZ7 t.symm) z) λh' hk=>⟨rfl,?_⟩;exact I.turnL (t':=s.toks) (ch:=[z,TI,TO,i1,i2]) (λb o hb e=>by
   simp only[zY2,zZ8,z33,not_or]at hb;exact hk b o hb.1 hb.2.2.1 hb.2.2.2.1 hb.2.2.2.2 e) hf
 self:=λA i s Q E st h=>wpAny_pyIter_zip st.1 h
theorem fO {P:Program}{w:World}{K:PySem.W.Frag}{elts:List Expr}{G:Nat}{pos:Pos}{e it l:Addr}(hne:e≠it):
  Turn P w K (.Tuple elts G pos) (Ite K l) [e,it] e (λi h=>(∃old,IsEnum h e it i old)/\h.IsListIter it l i) where
 mem:=by simp
 obj:=λi h st b hb=>by
  obtain⟨⟨old,a⟩,⟨C,e1,_,F⟩⟩:=st;simp only[zY2,zZ8,z33]at hb;rcases hb with rfl|rfl
  ·exact⟨_,a,λv z=>by cases(show Data.fields _=Data.cell v from z)⟩
  ·exact⟨C,e1,λv z=>by rw[F]at z;cases z⟩
 keep:=λi h h' st k=>by
  obtain⟨⟨old,a⟩,f⟩:=st;exact⟨⟨old,k e (by simp) _ a⟩,f.at λo q=>k it (by simp) o q⟩
 item:=by
  intro X m hw hK B i pins s σ H E I hf st hg;subst m hw hK;obtain⟨xs,x,c,y⟩:=hg;obtain⟨g,d,p1,t⟩:=I.list c;obtain⟨u,O,D⟩:=d.get y;obtain⟨⟨old,a⟩,f⟩:=st;refine wpAny_pyNext_enum_item a f p1.isList (x:=u) (by simpa using O) hne λh' a1 R N U hk=>⟨_,rfl,?_⟩;refine wpAny_letOwnedTupleGo_enum (s:={s with heap:=h',toks:=s.toks+1}) a1 λj S n=>?_;have r:s.heap.objs.size≠e:=z70 (zY6 a);have p:∀b o,b∉[e,it]->s.heap.get? b=some o->j.get? b=some o:=λb o hb q=>by
   simp only[zY2,zZ8,z33,not_or]at hb;exact n.extBut _ _ hb.1 (hk b o hb.1 hb.2 q)
  have M:j.get? s.heap.objs.size=some {cls:=.type "tuple",data:=.seq #[.int i s.toks,u]}:=n.extBut _ _ r N;have J:=I.turnLay (t':=s.toks+1) (T:=s.heap.objs.size) (o:=.tup [.int i,x]) p hf (zY3 _) ⟨by show 2<=sizeLine;decide,[.int i s.toks,u],.cons ⟨_,rfl⟩ (.cons D .nil),_,M,rfl,0,rfl⟩;refine⟨.ref s.heap.objs.size,_,J,rfl,⟨_,x,rfl,I.hok.fresh (zY3 _),rfl,λzs hz=>by rw[I.list_inj hz c];exact y⟩,⟨⟨u,by simpa using S⟩,R.extBut n.extBut hne.symm⟩,λb hb=>?_⟩;rw[zc]
  ·exact(hf b hb).1
  ·obtain⟨o,q,_⟩:=(show ∃o,s.heap.get? b=some o/\True from by
    simp only[zY2,zZ8,z33]at hb;obtain⟨C,e1,_⟩:=f;rcases hb with rfl|rfl
    ·exact⟨_,a,trivial⟩
    ·exact⟨_,e1,trivial⟩)
   exact z01 (zY6 q)
 done:=by
  intro X m hw hK B i pins s σ H E I hf st hg;subst m hw hK;obtain⟨xs,c,L⟩:=hg;obtain⟨g,d,p1,t⟩:=I.list c;obtain⟨⟨old,a⟩,f⟩:=st;have e1:=d.length;refine wpAny_pyNext_enum_end (I.ok.hd B) a f p1.isList (by simp;exact zY8 (zZ7 e1.symm) L) λh' hk=>⟨rfl,?_⟩;exact I.turnL (t':=s.toks) (ch:=[e,it]) (λb o hb q=>by
   simp only[zY2,zZ8,z33,not_or]at hb;exact hk b o hb.2 q) hf
 self:=λA i s Q E st h=>by
  obtain⟨⟨old,a⟩,f⟩:=st;exact wpAny_pyIter_enum a h
section
variable {X:Cx}{α:Ev}{elts:List Expr}{kk:Nat}{tp p pos:Pos}{a b:Expr}
def zU2 (K:PySem.W.Frag)(c:TA):TI:=λσ H R=>c σ H λvs H1=>∃l1 l2,vs=[.ref l1,.ref l2]/\(∃xs,SqL K H1 l1 xs)/\(∃ys,SqL K H1 l2 ys)/\R (Itz K l1 l2) H1
theorem zF5 {t:TA}(hg:Gl X "zip")(hm:X.mg "zip"=none)(ha:PA X [a,b] t)(A:starEach [a,b] X.env=[(false,eval a X.env),(false,eval b X.env)]:=by rfl)(d:starEach [b] X.env=[(false,eval b X.env)]:=by rfl):
  PI X (.Tuple elts kk tp) (.Call (.Name "zip" p) [a,b] [] pos) (zU2 X.K t):=by
 intro pins s σ H R I h;refine Call_ (yU I hg hm boot_zip (z32 (thn (ha pos pins s σ H _ I h) λus s1 ⟨vs,H1,c,C,M⟩=>?_) (by rw[A,d]) (by rw[d];rfl)));obtain⟨l1,l2,e,⟨xs,j⟩,⟨ys,i⟩,q⟩:=M;subst e;obtain⟨u,v,rfl,w,x⟩:=Vals.two C;cases(show u=Value.ref l1 from w);cases(show v=Value.ref l2 from x);obtain⟨l,y,p1,J⟩:=c.list j;obtain⟨r,F,p2,L⟩:=c.list i;refine call_zip_2 p1.isList p2.isList λh' m E z3 B G N hk=>?_;refine wpAny_pyIter_zip (s:={s1 with heap:=h'}) m ?_;have g:l1<s1.heap.objs.size:=by obtain⟨o,e,_⟩:=p1.isList;exact zY6 e
 have k:l2<s1.heap.objs.size:=by obtain⟨o,e,_⟩:=p2.isList;exact zY6 e
 have fr:∀n,H1 (s1.heap.objs.size+n)=none:=λn=>c.hok.fresh (zZ4 _ _);have D:ZipApart (s1.heap.objs.size+4) (s1.heap.objs.size+2) (s1.heap.objs.size+3) s1.heap.objs.size (s1.heap.objs.size+1) l1 l2:=gL _ _ _ g k;refine⟨_,_,_,_,H1,rfl,c.kept (t':=s1.toks) λb o e=>hk b o e,ze0 D,⟨m,E,⟨_,_,z3⟩,B,G⟩,λb hb=>?_,q⟩;simp only[zY2,zZ8,z33]at hb;have f:s1.heap.objs.size<=b:=by
  have key:∀n b:Nat,n=s1.heap.objs.size->(b=n+4\/b=n+2\/b=n+3\/b=n\/b=n+1)->n<=b:=λn b _ h=>by lia
  exact key _ _ rfl (by rcases hb with z|z|z|z|z<;>simp[z])
 exact c.fpOk f (c.hok.fresh f)
def zO4 (K:PySem.W.Frag)(c:TA):TI:=λσ H R=>c σ H λvs H1=>∃l,vs=[.ref l]/\(∃xs,SqL K H1 l xs)/\R (Ite K l) H1
theorem zh2 {k:TA}(hg:Gl X "enumerate")(hm:X.mg "enumerate"=none)(ha:PA X [a] k)(r:starEach [a] X.env=[(false,eval a X.env)]:=by rfl):
  PI X (.Tuple elts kk tp) (.Call (.Name "enumerate" p) [a] [] pos) (zO4 X.K k):=by
 intro pins s σ H R I h;refine Call_ (yU I hg hm boot_enumerate (z32 (thn (ha pos pins s σ H _ I h) λus s1 f=>?_) r rfl));obtain⟨vs,H1,d,v,x⟩:=f;obtain⟨l1,e,⟨xs,g⟩,q⟩:=x;subst e;obtain⟨u,rfl,l⟩:=Vals.one v;cases(show u=Value.ref l1 from l);obtain⟨i,m,p1,w⟩:=d.list g;refine call_enumerate_list p1.isList λh' j t y hk=>?_;refine wpAny_pyIter_enum (s:={s1 with heap:=h'}) j ?_;refine⟨_,_,_,_,H1,rfl,d.kept (t':=s1.toks) λb o e=>hk b o e,fO (bF (a:=s1.heap.objs.size+1) (b:=s1.heap.objs.size) (z56 _)),⟨⟨_,j⟩,t⟩,λb hb=>?_,q⟩;simp only[zY2,zZ8,z33]at hb;have c:s1.heap.objs.size<=b:=by
  have key:∀n b:Nat,n=s1.heap.objs.size->(b=n+1\/b=n)->n<=b:=λn b _ h=>by lia
  exact key _ _ rfl hb
 exact d.fpOk c (d.hok.fresh c)
def cV (ds c:List PyData):List PyData:=List.zipWith (λd e=>.tuple [d,e]) ds c
theorem zH8 {Q:List PyData->Prop}(hg:Gl X "zip")(hm:X.mg "zip"=none)(h:EvD X α a λx=>EvD X α b λy=>∃ds l,x=.list ds/\y=.list l/\Q (cV ds l))
  (G:starEach [a,b] X.env=[(false,eval a X.env),(false,eval b X.env)]:=by rfl) (g:starEach [b] X.env=[(false,eval b X.env)]:=by rfl) (t:starEach [a,b] X.env=(false,eval a X.env)::starEach [b] X.env:=by rfl):
  EvI X α (.Tuple elts kk tp) (.Call (.Name "zip" p) [a,b] [] pos) Q:=λF σ H R m k=>by
 refine⟨_,zF5 hg hm (zy zf (zy zf zW g) t) G g,?_⟩;refine h F σ H _ m λx O H1 L t1 k1 J=>?_;have m1:=m.kz k1 t1;refine L F σ H1 _ m1 λy N C M t2 k2 E=>?_;obtain⟨ds,l,rfl,rfl,q⟩:=M;obtain⟨l1,xs,rfl,g1,g2⟩:=(J.same (k2.gz m1.tp)).lst_inv;obtain⟨l2,ys,rfl,g3,z⟩:=E.lst_inv;refine⟨l1,l2,rfl,⟨xs,SqL.of (zb g1).2⟩,⟨ys,SqL.of (zb g3).2⟩,k _ _ C q t2 (k1.trans k2) λi H3 p s=>⟨λd hd=>?_,λu=>?_⟩⟩
 ·have s1:=SqL.of (K:=X.K) (zb (s _ _ g1)).2;have s2:=SqL.of (K:=X.K) (zb (s _ _ g3)).2;unfold cV at hd;rw[List.getElem?_zipWith]at hd;cases e1:ds[i]? with
  |none=>rw[e1]at hd;cases hd
  |some S=>
   cases e2:l[i]? with
   |none=>rw[e1,e2]at hd;cases hd
   |some U=>
    rw[e1,e2]at hd;cases hd;obtain⟨D,c,r⟩:=g2.get e1;obtain⟨w,f,n⟩:=z.get e2;refine⟨⟨xs,ys,D,w,s1,s2,c,f⟩,λv P y=>?_⟩;obtain⟨T,x,y,rfl,hT,rfl,j,hy⟩:=y;have j:=j _ s1;have hy:=hy _ s2;rw[c]at j;cases j;rw[f]at hy;cases hy;refine⟨zH hT,λfr=>?_⟩;have B:zu (Gz F α σ C) (sub p (upd H3 T (.tup [D,w]))):=λa o e=>by
     obtain⟨I,A⟩:=zb (s a o e);exact zt I (by rw[zc (zk A hT)];exact A)
    exact .tup (zt (fr T _ zh hT) zh) (.cons (r.same B) (.cons (n.same B) .nil))
 ·refine⟨xs,ys,SqL.of (zb (s _ _ g1)).2,SqL.of (zb (s _ _ g3)).2,?_⟩;unfold cV at u;rw[List.length_zipWith,<-g2.length,<-z.length]at u
  lia
def vS (n:Nat):List PyData->List PyData
 |[]=>[]
 |d::ds=>.tuple [.int n,d]::vS (n+1) ds
theorem xv :∀{ds:List PyData}{n i:Nat}{d:PyData},(vS n ds)[i]?=some d->∃e,ds[i]?=some e/\d=.tuple [.int ((n+i:Nat):Int),e]
 |[],n,i,d,h=>by simp[vS]at h
 |e::ds,n,0,d,h=>by simp[vS]at h;exact⟨e,rfl,by simp[<-h]⟩
 |e::ds,n,i+1,d,h=>by
  simp only[vS,yf1]at h;obtain⟨f,g,c⟩:=xv h;exact⟨f,by simpa using g,by rw[c,Nat.add_assoc,Nat.add_comm 1 i]⟩
theorem wc :∀(ds:List PyData) (n:Nat),(vS n ds).length=ds.length
 |[],_=>rfl
 |_::ds,n=>by simp[vS,wc ds (n+1)]
theorem vJ {Q:List PyData->Prop}(hg:Gl X "enumerate")(hm:X.mg "enumerate"=none)(h:EvD X α a λx=>∃ds,x=.list ds/\Q (vS 0 ds))(j:starEach [a] X.env=[(false,eval a X.env)]:=by rfl):
  EvI X α (.Tuple elts kk tp) (.Call (.Name "enumerate" p) [a] [] pos) Q:=λF σ H R m k=>by
 refine⟨_,zh2 hg hm (zy zf zW j) j,?_⟩;refine h F σ H _ m λx A H1 z t1 k1 u=>?_;obtain⟨ds,rfl,q⟩:=z;obtain⟨l1,xs,rfl,g1,g2⟩:=u.lst_inv;refine⟨l1,rfl,⟨xs,SqL.of (zb g1).2⟩,k _ _ H1 q t1 k1 λi H3 p s=>⟨λd hd=>?_,λl=>?_⟩⟩
 ·have s1:=SqL.of (K:=X.K) (zb (s _ _ g1)).2;obtain⟨e,he,rfl⟩:=xv hd;obtain⟨r,c,g⟩:=g2.get he;refine⟨⟨xs,r,s1,c⟩,λv B y=>?_⟩;obtain⟨T,x,rfl,hT,rfl,f⟩:=y;have f:=f _ s1;rw[c]at f;cases f;refine⟨zH hT,λfr=>?_⟩;have w:zu (Gz F α σ H1) (sub p (upd H3 T (.tup [.int i,r]))):=λa o e=>by
   obtain⟨t,n⟩:=zb (s a o e);exact zt t (by rw[zc (zk n hT)];exact n)
  refine .tup (zt (fr T _ zh hT) zh) (.cons ?_ (.cons (g.same w) .nil));rw[yh0];exact .int _
 ·refine⟨xs,SqL.of (zb (s _ _ g1)).2,?_⟩;rw[wc,<-g2.length]at l;exact l
end
structure Cal (P:Program)(w:World)(K:PySem.W.Frag)(mg:Str->Option Value)(base:Heap)(x:Str)(k:Nat)(φ:List A->(A->Prop)->Prop):Prop where
 ex:∃f fd ps,mg x=some (.ref f)/\PySem.W.keepIn K (.ref f)=true/\Binds K fd ps []/\yv P w K mg base CX0 k f fd ps (spA φ)
section
variable {X:Cx}{α:Ev}{e a b:Expr}{es:List Expr}{pos p:Pos}{Q:PyData->Prop}{k:Nat}{φ:List A->(A->Prop)->Prop}{x:Str}
theorem yo (C:Cal X.prog X.w X.K X.mg X.base x k φ)(hr:zG k X.A)(hg:Gl X x)(h:EvA X α (e::es) λas=>φ as λa=>Q a.d)
  (c:(x == ("__debug__":Str))=false:=by decide) (he:starEach (e::es) X.env=(false,eval e X.env)::starEach es X.env:=by rfl) (hpl:(backTo pos (starEach es X.env)).any (·.1)=false:=by rfl):EvD X α (.Call (.Name x p) (e::es) [] pos) Q:=by
 obtain⟨f,fd,ps,i,j,g,l⟩:=C.ex;exact zi2 l hr hg i j g h c he hpl
theorem xY {Q:List PyData->Prop}(C:Cal X.prog X.w X.K X.mg X.base x k φ)(hr:zG k X.A)(hg:Gl X x)(h:EvA X α (e::es) λas=>φ as λa=>∃ds,a=.own ds/\Q ds)
  (c:(x == ("__debug__":Str))=false:=by decide) (he:starEach (e::es) X.env=(false,eval e X.env)::starEach es X.env:=by rfl) (hpl:(backTo pos (starEach es X.env)).any (·.1)=false:=by rfl):EvL X α (.Call (.Name x p) (e::es) [] pos) Q:=by
 obtain⟨f,fd,ps,d,j,i,g⟩:=C.ex;exact zh7 g hr hg d j i h c he hpl
end
section
variable {P:Program}{w:World}{K:PySem.W.Frag}{mg:Str->Option Value}{base:Heap}
theorem zV1 {x qual:Str}{st:Stmt}{f:Addr}{fd:FuncData}{N ps:List Str}{k:Nat}{φ:List A->(A->Prop)->Prop}(G:Fun K x qual st f fd)(hm:mg x=some (.ref f))(hb:Binds K fd ps [])(S:zI N ps (zd st))(hlen:∀as Q,φ as Q->as.length=ps.length)
  (a:∀(cdv:Value) (b:Around) (outer:List Env) (s:Shared) (H:Hp) (E:XK) (as:List A) (Q:A->Prop),zG k (b.deeper (envOfC qual (zd st) s.heap.objs.size f cdv))->φ as Q->
   SvS (xr CX0 P w K mg base N qual (zd st) f cdv b outer s H E).nox (as.map some++List.replicate (N.length-as.length) none) (zr st) {nx:=λ_=>Q (.dat .none),rt:=Q}):Cal P w K mg base x (k+1) φ:=
 ⟨f,fd,ps,hm,G.kp,hb,fnA G S hlen a⟩
def xV :List A->(A->Prop)->Prop:=λas Q=>∃n:Int,as=[.tape,.dat (.int n)]/\0<n/\n<big/\∀v,0<=v->v<n->Q (.dat (.int v))
end
section
variable {Y:Addr->Shared->Hp->List Addr->Cx}{pat:Pat}{ifs:List Expr}{elt:Expr}{α0:Ev}
theorem qE {ds acc:List PyData}{Q:List PyData->Prop}(P:Nat->List PyData->Prop)(h0:P 0 acc)
  (h:∀i d acc,ds[i]?=some d->P i acc->∃a,pat.bind d α0=some a/\∀C s2 f fp,eB (Y C s2 f fp) a ifs λk=>if k=true then ∀C s2 f fp,EvD (Y C s2 f fp) a elt λy=>P (i+1) (acc++[y])else P (i+1) acc)
  (hd:∀acc,P ds.length acc->Q acc):yZ Y pat ifs elt α0 ds acc Q:=by
 have key:∀n i acc,n=ds.length-i->i<=ds.length->P i acc->yZ Y pat ifs elt α0 (ds.drop i) acc Q:=by
  intro n
  induction n with
  |zero=>
   intro i acc hn hi p;have e:i=ds.length:=(om5 hn hi);subst e;rw[yc5];exact hd acc p
  |succ n g=>
   intro i acc hn hi p;have c:i<ds.length:=(om6 hn);rw[z88 c];obtain⟨a,e,b⟩:=h i ds[i] acc (zY1 c) p;refine⟨a,e,λC s2 f fp F σ H R m j=>b C s2 f fp F σ H R m λk H' q=>j k H' ?_⟩;cases k with
   |true=>
    rw[if_pos rfl]at q ⊢;exact λC s2 f fp=>(q C s2 f fp).imp λy p=>g (i+1) _ (om7 hn) c p
   |false=>
    rw[if_neg (by decide)]at q ⊢;exact g (i+1) _ (om7 hn) c q
 exact key _ 0 acc rfl (zZ6 _) h0
theorem rn {ds acc:List PyData}{Q:List PyData->Prop}(p:PyData->Bool)(f:PyData->PyData)
  (g:∀d∈ds,∃a,pat.bind d α0=some a/\(∀C s2 b fp (Q:Bool->Prop),Q (p d)->eB (Y C s2 b fp) a ifs Q)/\(p d=true->∀C s2 b fp (Q:PyData->Prop),Q (f d)->EvD (Y C s2 b fp) a elt Q))
  (hd:Q (acc++(ds.filter p).map f)):yZ Y pat ifs elt α0 ds acc Q:=by
 induction ds generalizing acc with
 |nil=>
  show Q acc;simpa using hd
 |cons d ds i=>
  obtain⟨a,e,h,j⟩:=g d zY9;refine⟨a,e,λC s2 b fp=>h C s2 b fp _ ?_⟩;have c:=λacc=>i (acc:=acc) λd hd=>g d (zY5 _ hd);cases hp:p d with
  |true=>
   rw[if_pos rfl];refine λC s2 b fp=>j hp C s2 b fp _ (c _ ?_);simpa[yc6,hp]using hd
  |false=>
   rw[if_neg (by decide)];refine c _ ?_;simpa[yc6,hp]using hd
end
theorem zw3 {ds:List PyData}{v:Int}(h0:0<=v)(b:v<ds.length):∃d,d∈ds/\atI ds v=some d:=by
 obtain⟨j,rfl⟩:=ya7 h0;have a:j<ds.length:=(om9 b);exact⟨ds[j],z92 a,pH (zY1 a)⟩
theorem kj (st:Stmt)(env:Env):execs [st] env=exec st env:=by
 rw[PySem.execs_cons];have:(λf:Flow=>(match f with|.next=>execs [] env|f=>pure f:Sem Flow))=pure:=by
  funext f
  cases f<;>rfl
 exact(congrArg (λg=>exec st env >>= g) this).trans (bind_pure _)
section
variable {X:Cx}{α:Ev}{e a b c:Expr}{es rest:List Expr}{pos p:Pos}{Q:PyData->Prop}{E:yi}{st:Stmt}{sts sts':List Stmt}
theorem yp (P:Ev->Prop)(i:SvS X α [st] {E with nx:=P})(j:∀d,P d->SvS X d sts E):SvS X α (st::sts) E:=λF σ H D m r=>by
 refine sf (λf H'=>∃d,M F d f H'/\P d) ?_ ?_
 ·obtain⟨t,p,q⟩:=i F σ H {D with nx:=λf H'=>∃d,M F d f H'/\P d} m ⟨λd f H' g z=>⟨d,g,z⟩,r.rt,r.bk,r.ct⟩;exact⟨t,λpins s σ H D I h=>(by
   have:=p pins s σ H D I h;rw[kj]at this;exact this),q⟩
 ·rintro f H' ⟨d,g,z⟩;exact j d z F f H' D g r
theorem cR {c:Prop}[Decidable c]{a b:List Stmt}(f:c->SvS X α a E)(d:¬c->SvS X α b E):SvS X α (if decide c=true then a else b) E:=by
 by_cases h:c
 ·rw[z26 h];exact f h
 ·rw[z06 h];exact d h
theorem yr {k:Bool}{a b:List Stmt}(f:k=true->SvS X α a E)(d:k=false->SvS X α b E):SvS X α (if k=true then a else b) E:=by
 cases k with
 |true=>exact f rfl
 |false=>exact d rfl
theorem zn5 {i j:Int}:Cmp rEq (.int i) (.int j) (decide (i=j)):=λp H k g R f d h=>by
 cases f.int_inv;cases d.int_inv;refine⟨rfl,?_⟩;rw[show decide (V.int i=V.int j)=decide (i=j) by simp];exact h
theorem zm1 {i j:Int}:Cmp rNe (.int i) (.int j) (!decide (i=j)):=λp H k g R f d h=>by
 cases f.int_inv;cases d.int_inv;refine⟨rfl,?_⟩;rw[show decide (V.int i=V.int j)=decide (i=j) by simp];exact h
theorem iu {i j:Str}:Cmp rEq (.str i) (.str j) (decide (i=j)):=λp H k g R f d h=>by
 cases f.str_inv;cases d.str_inv;refine⟨rfl,?_⟩;rw[show decide (V.str i=V.str j)=decide (i=j) by simp];exact h
theorem kI {op:CmpOp}{r:R2}(i:OpR X (compareOp op) r)(hm:behindInMarks op b=false)(h:EvD X α a λx=>EvD X α b λy=>∃k,Cmp r x y k/\Q (.bool k)):EvD X α (.Compare a [op] [b] pos) Q:=λF σ H R m k=>by
 refine⟨_,pY i zf zf hm,?_⟩;refine h F σ H _ m λx j H1 l t1 k1 s=>?_;have m1:=m.kz k1 t1;refine l F σ H1 _ m1 λy f d n t2 k2 g=>?_;obtain⟨b,o,q⟩:=n;exact o _ d j f _ (s.same (k2.gz m1.tp)) g (k _ _ d q t2 (k1.trans k2) (.bl b))
theorem zJ1 {Q:Bool->Prop}(h:EvD X α a λx=>EvD X α b λy=>∃i j,x=.str i/\y=.str j/\Q (decide (i=j))):EvT X α (.Compare a [.Eq] [b] pos) Q:=
 xT zy4 (yR _) (h.imp λx h=>h.imp λy d=>by obtain⟨i,j,e1,f,q⟩:=d;exact⟨_,by subst e1 f;exact iu,q⟩)
theorem zg7 {p q:Bool}{Q:Bool->Prop}(ha:∀Q:Bool->Prop,Q p->EvT X α a Q)(hb:p=true->∀Q:Bool->Prop,Q q->EvW X α (.BoolOp .And (b::rest) pos) Q)(k:Q (p&&q)):EvW X α (.BoolOp .And (a::b::rest) pos) Q:=by
 refine eZ (ha _ ?_);cases p with
 |true=>rw[if_pos rfl];exact hb rfl _ (by simpa using k)
 |false=>rw[if_neg (by decide)];simpa using k
theorem M.park {F:Fr}{σ:St}{H H1:Hp}{l:Addr}{o:HO}(m:M F α σ H)(k1:Kz F H H1)(t1:zA F H1)(v:H l=none)(h:H1 l=some o)(no:wb o):M ⟨F.H0,λx=>F.O0 x\/x=l,F.tp⟩ α σ H1:=by
 have m1:=m.kz k1 t1;have A:zu (Gz F α σ H) (Gz ⟨F.H0,λx=>F.O0 x\/x=l,F.tp⟩ α σ H1):=λy o z=>by
  obtain⟨j,t⟩:=zb z;refine zt ?_ (k1 _ _ t (m.tp.nt (ow0 j)));rintro((w|w)|⟨i,a,s,e1,g,f⟩)
  ·exact j (.inl w)
  ·rw[w,v]at t;cases t
  ·exact j (.inr ⟨i,a,s,e1,g,f⟩)
 refine⟨m.len,λi a s e1 g=>(m.ok i a s e1 g).stay A (λx o f e=>?_) rfl λr q _ y=>?_,m.dj,m.xd,t1.to rfl λ_ z=>.inl z,λy o z n=>m1.keep y o z n,λy z=>?_⟩
 ·obtain⟨u,B,_⟩:=m.ft e1 g f;exact⟨k1 _ _ e (m.tp.nt u),λ(w:F.O0 x\/x=l)=>w.elim u (λw=>by rw[w,v]at e;cases e),B⟩
 ·have d:=y.kz k1 t1;exact⟨d.tp,λx z=>.inl (d.o x z),d.ok,d.k⟩
 ·rcases z with z|z
  ·exact m1.oex y z
  ·exact⟨_,by rw[z];exact h,no⟩
end
structure NbT (mg:Str->Option Value):Prop where
 abs:mg "abs"=none
 list:mg "list"=none
 len:mg "len"=none
 range:mg "range"=none
 min:mg "min"=none
 max:mg "max"=none
 sorted:mg "sorted"=none
 isinstance:mg "isinstance"=none
 int:mg "int"=none
 bool:mg "bool"=none
 str:mg "str"=none
 tuple:mg "tuple"=none
 all:mg "all"=none
 any:mg "any"=none
 repr:mg "repr"=none
 zip:mg "zip"=none
 enumerate:mg "enumerate"=none
 reversed:mg "reversed"=none
 sum:mg "sum"=none
theorem vj {X:Cx}{K:PySem.W.Frag}{a:List Expr}{k:Nat}{t:TGs}{n:Nat}{pos:Pos}(hK:X.K=K)(c:X.calm=true)(h:PGs X a t)
  (hn:(assignEach a X.env).length=n:=by rfl) (b:(assignEach a X.env).findIdx? (·.1)=none:=by rfl):PG X (.Tuple a k pos) (aE K n t):=by
 subst hK;exact zI4 c h hn b
end L2
namespace SortA
open PySem PySem.W PyProof.Rows
def run {α:Type}(lt:Nat->Nat->Bool):KasT α->α
 |.ret a=>a
 |.ask i j k=>run lt (k (lt i j))
theorem run_bind {α β:Type}(lt:Nat->Nat->Bool)(f:α->KasT β):∀t:KasT α,run lt (t.bind f)=run lt (f (run lt t))
 |.ret _=>rfl
 |.ask i j k=>run_bind lt f (k (lt i j))
structure Ord (lt:Nat->Nat->Bool):Prop where
 irr:∀a,lt a a=false
 tr:∀a b c,lt b a=false->lt c b=false->lt c a=false
 asy:∀a b,lt a b=true->lt b a=false
abbrev g (p:Array Nat)(i:Nat):Nat:=p.getD i 0
def Up (lt:Nat->Nat->Bool)(p:Array Nat)(m:Nat):Prop:=∀i j,i<=j->j<m->lt (g p j) (g p i)=false
def Down (lt:Nat->Nat->Bool)(p:Array Nat)(m:Nat):Prop:=∀i j,i<=j->j<m->lt (g p i) (g p j)=false
theorem bx {p q:Array Nat}{i j:Nat}(h:p[i]?=q[j]?):g p i=g q j:=by
 unfold g;rw[Array.getD_eq_getD_getElem?,Array.getD_eq_getD_getElem?,h]
variable {lt:Nat->Nat->Bool}
theorem Up.succ (O:Ord lt){p:Array Nat}{m:Nat}(h:Up lt p m)(hm:0<m)(e:lt (g p m) (g p (m-1))=false):Up lt p (m+1):=λi j a c=>by
 by_cases e1:j<m
 ·exact h i j a e1
 ·have d:j=m:=(z77 (z75 c) (z72 e1));subst d;by_cases b:i=j
  ·subst b;exact O.irr _
  ·exact O.tr _ _ _ (h i (j-1) (zs1 a b) (sX hm)) e
theorem Down.succ (O:Ord lt){p:Array Nat}{m:Nat}(h:Down lt p m)(hm:0<m)(e:lt (g p (m-1)) (g p m)=false):Down lt p (m+1):=λi j a c=>by
 by_cases e1:j<m
 ·exact h i j a e1
 ·have d:j=m:=(z77 (z75 c) (z72 e1));subst d;by_cases b:i=j
  ·subst b;exact O.irr _
  ·exact O.tr _ _ _ e (h i (j-1) (zs1 a b) (sX hm))
theorem zF3 (O:Ord lt)(p:Array Nat):Up lt p 1:=λi j a b=>by
 have e1:i=0:=(zy6 b a);have c:j=0:=(zt8 b);rw[e1,c];exact O.irr _
theorem kf (O:Ord lt)(p:Array Nat):∀(f n:Nat),0<n->Up lt p n->n<=run lt (kas_asc p f n)/\run lt (kas_asc p f n)<=n+f/\Up lt p (run lt (kas_asc p f n))/\
  (run lt (kas_asc p f n)<n+f->lt (g p (run lt (kas_asc p f n))) (g p (run lt (kas_asc p f n)-1))=true)
 |0,n,_,h=>⟨zY3 _,zY3 _,h,λz=>absurd z (z36 _)⟩
 |f+1,n,hn,h=>by
  show n<=run lt ((λc=>if c=true then KasT.ret n else kas_asc p f (n+1)) (lt (p.getD n 0) (p.getD (n-1) 0)))/\_;cases e:lt (p.getD n 0) (p.getD (n-1) 0)with
  |true=>
   have i:run lt (kas_asc p (f+1) n)=n:=by
    show run lt ((λc=>if c=true then KasT.ret n else kas_asc p f (n+1)) (lt (p.getD n 0) (p.getD (n-1) 0)))=n;rw[e];rfl
   rw[i];exact⟨zY3 _,(zZ4 _ _),h,λ_=>e⟩
  |false=>
   have i:run lt (kas_asc p (f+1) n)=run lt (kas_asc p f (n+1)):=by
    show run lt ((λc=>if c=true then KasT.ret n else kas_asc p f (n+1)) (lt (p.getD n 0) (p.getD (n-1) 0)))=_;rw[e];rfl
   rw[i];obtain⟨a,b,c,d⟩:=kf O p f (n+1) (ye3 _) (h.succ O hn e);exact⟨by show n<=run lt (kas_asc p f (n+1));exact zY8 (zZ4 _ _) a,(jM b),c,λz=>d (by lia)⟩
theorem tL {p:Array Nat}{i j:Nat}(a:j<=p.size)(k:Nat):g (kas_rev p i j) k=if i<=k/\k<j then g p (i+j-1-k)else g p k:=by
 have h:=getElem?_mirror_all (xs:=p) (i:=i) a k;split
 ·rename_i c;rw[if_pos c]at h;exact bx h
 ·rename_i c;rw[if_neg c]at h;exact bx h
theorem xE (p:Array Nat)(i j:Nat):(kas_rev p i j).size=p.size:=mirror_size _ _ _ _
theorem yG (p:Array Nat)(i j:Nat):(kas_rev p i j).Perm p:=mirror_perm _ _ _ _
def Eqv (lt:Nat->Nat->Bool)(a b:Nat):Prop:=lt a b=false/\lt b a=false
theorem Down.eqv (O:Ord lt){p q:Array Nat}{n:Nat}(h:Down lt p n)(e:∀k,k<n->Eqv lt (g q k) (g p k)):Down lt q n:=λi j a b=>
 O.tr _ _ _ (O.tr _ _ _ (e j b).2 (h i j a b)) (e i (zZ9 a b)).1
def Last (lt:Nat->Nat->Bool)(p:Array Nat)(n q:Nat):Prop:=∀a b,n<=a+(q+1)->a<n->n<=b+(q+1)->b<n->lt (g p a) (g p b)=false
theorem rev_last (O:Ord lt){p:Array Nat}{n q:Nat}(hn:n<=p.size)(hq:q<n)(L:Last lt p n q):∀k,k<n->Eqv lt (g (kas_rev p (n-(q+1)) n) k) (g p k):=λk hk=>by
 rw[tL hn];split
 ·rename_i c;exact⟨L _ _ (zw9 hk) (zt0 c.2 c.1) (zz2 c.1) hk,L _ _ (zz2 c.1) hk (zw9 hk) (zt0 c.2 c.1)⟩
 ·exact⟨O.irr _,O.irr _⟩
theorem sj (O:Ord lt):∀(f:Nat) (p:Array Nat) (n q:Nat),q<n->n+f<=p.size->Down lt p n->Last lt p n q->
  ∃i m j,run lt (kas_desc f p n q)=(i,m,j)/\n<=m/\m<=n+f/\i.size=p.size/\i.Perm p/\j<m/\Down lt i m/\Last lt i m j
 |0,p,n,q,hq,s,h,L=>⟨p,n,q,rfl,zY3 _,zY3 _,rfl,yd6 _,hq,h,L⟩
 |f+1,p,n,q,hq,s,h,L=>by
  cases e:lt (p.getD n 0) (p.getD (n-1) 0)with
  |true=>
   by_cases w:q > 0
   ·have o:run lt (kas_desc (f+1) p n q)=run lt (kas_desc f (kas_rev p (n-(q+1)) n) (n+1) 0):=by
     show run lt ((λc=>if c=true then(if q > 0 then kas_desc f (kas_rev p (n-(q+1)) n) (n+1) 0 else kas_desc f p (n+1) 0)
      else .ask (p.getD (n-1) 0) (p.getD n 0) λd=>if d=true then .ret (p,n,q)else kas_desc f p (n+1) (q+1)) (lt (p.getD n 0) (p.getD (n-1) 0)))=_
     rw[e];show run lt (if q > 0 then _ else _)=_;rw[if_pos w]
    have ev:=rev_last O ((zY8 (zZ4 _ _) s):n<=p.size) hq L;have l:=h.eqv O ev;have hn:g (kas_rev p (n-(q+1)) n) n=g p n:=by rw[tL (zY8 (zZ4 _ _) s),if_neg (zu3)]
    have r:Down lt (kas_rev p (n-(q+1)) n) (n+1):=l.succ O (zZ9 (zZ6 _) hq) (by
     rw[hn];exact O.tr _ _ _ (O.asy _ _ e) (ev (n-1) (sX hq)).1)
    obtain⟨i,m,j,a,b,c,u,z,A,t,x⟩:=sj O f (kas_rev p (n-(q+1)) n) (n+1) 0 (ye3 _) (by rw[xE];exact jA s) r (λa b l r v y=>by
     have e1:a=n:=(qx l r);have k:b=n:=(qx v y);rw[e1,k];exact O.irr _)
    exact⟨i,m,j,o.trans a,(zY8 (zZ4 _ _) b),(jM c),by rw[u,xE],z.trans (yG _ _ _),A,t,x⟩
   ·have o:run lt (kas_desc (f+1) p n q)=run lt (kas_desc f p (n+1) 0):=by
     show run lt ((λc=>if c=true then(if q > 0 then kas_desc f (kas_rev p (n-(q+1)) n) (n+1) 0 else kas_desc f p (n+1) 0)
      else .ask (p.getD (n-1) 0) (p.getD n 0) λd=>if d=true then .ret (p,n,q)else kas_desc f p (n+1) (q+1)) (lt (p.getD n 0) (p.getD (n-1) 0)))=_
     rw[e];show run lt (if q > 0 then _ else _)=_;rw[if_neg w]
    obtain⟨i,m,j,a,b,c,u,z,A,t,x⟩:=sj O f p (n+1) 0 (ye3 _) (jA s) (h.succ O (zZ9 (zZ6 _) hq) (O.asy _ _ e)) (λa b l r v y=>by
     have e1:a=n:=(qx l r);have k:b=n:=(qx v y);rw[e1,k];exact O.irr _)
    exact⟨i,m,j,o.trans a,(zY8 (zZ4 _ _) b),(jM c),u,z,A,t,x⟩
  |false=>
   cases k:lt (p.getD (n-1) 0) (p.getD n 0)with
   |true=>
    have o:run lt (kas_desc (f+1) p n q)=(p,n,q):=by
     show run lt ((λc=>if c=true then(if q > 0 then kas_desc f (kas_rev p (n-(q+1)) n) (n+1) 0 else kas_desc f p (n+1) 0)
      else .ask (p.getD (n-1) 0) (p.getD n 0) λd=>if d=true then .ret (p,n,q)else kas_desc f p (n+1) (q+1)) (lt (p.getD n 0) (p.getD (n-1) 0)))=_
     rw[e];show run lt ((λd=>if d=true then KasT.ret (p,n,q)else kas_desc f p (n+1) (q+1)) (lt (p.getD (n-1) 0) (p.getD n 0)))=_;rw[k];rfl
    exact⟨p,n,q,o,zY3 _,(zZ4 _ _),rfl,yd6 _,hq,h,L⟩
   |false=>
    have o:run lt (kas_desc (f+1) p n q)=run lt (kas_desc f p (n+1) (q+1)):=by
     show run lt ((λc=>if c=true then(if q > 0 then kas_desc f (kas_rev p (n-(q+1)) n) (n+1) 0 else kas_desc f p (n+1) 0)
      else .ask (p.getD (n-1) 0) (p.getD n 0) λd=>if d=true then .ret (p,n,q)else kas_desc f p (n+1) (q+1)) (lt (p.getD n 0) (p.getD (n-1) 0)))=_
     rw[e];show run lt ((λd=>if d=true then KasT.ret (p,n,q)else kas_desc f p (n+1) (q+1)) (lt (p.getD (n-1) 0) (p.getD n 0)))=_;rw[k];rfl
    have E:Last lt p (n+1) (q+1):=λa b l r v y=>by
     have two:∀a,n+1<=a+(q+1+1)->a<n+1->Eqv lt (g p a) (g p (n-1)):=λa D C=>by
      by_cases B:a=n
      ·rw[B];exact⟨e,k⟩
      ·exact⟨L a (n-1) (zu0 D) (zz0 C B) (zw7) (sX hq),L (n-1) a (zw7) (sX hq) (zu0 D) (zz0 C B)⟩
     exact O.tr _ _ _ (two b v y).2 (two a l r).1
    obtain⟨i,m,j,a,b,c,u,z,A,t,x⟩:=sj O f p (n+1) (q+1) (Nat.add_lt_add_right hq _) (jA s) (h.succ O (zZ9 (zZ6 _) hq) k) E;exact⟨i,m,j,o.trans a,(zY8 (zZ4 _ _) b),(jM c),u,z,A,t,x⟩
theorem zF6 {p:Array Nat}{n:Nat}(hn:n<=p.size)(h:Down lt p n):Up lt (kas_rev p 0 n) n:=λi j a b=>by
 rw[tL hn,tL hn,if_pos (⟨(zZ6 _),b⟩),if_pos (⟨(zZ6 _),(zZ9 a b)⟩)];exact h _ _ (by lia) (zv4 b)
theorem mM (O:Ord lt){p:Array Nat}{n nrem:Nat}(h0:0<n)(hn:n<=nrem)(e:nrem<=p.size)(h:Down lt p n):
  ∃d m,run lt (kas_tail3 n nrem p)=(m,d)/\1<=m/\m<=nrem/\d.size=p.size/\d.Perm p/\Up lt d m:=by
 obtain⟨a,b,c,_⟩:=kf O (kas_rev p 0 n) (nrem-n) n h0 (zF6 (zY8 hn e) h);refine⟨kas_rev p 0 n,run lt (kas_asc (kas_rev p 0 n) (nrem-n) n),?_,by lia,(aD b hn),xE _ _ _,yG _ _ _,c⟩;unfold kas_tail3;rw[run_bind];rfl
theorem tK (O:Ord lt){p:Array Nat}{n nrem:Nat}(h0:0<n)(hn:n+1<=nrem)(s:nrem<=p.size)(h:Down lt p (n+1)):
  ∃c m,run lt (kas_descPart n nrem p)=(m,c)/\1<=m/\m<=nrem/\c.size=p.size/\c.Perm p/\Up lt c m:=by
 obtain⟨p1,m1,w,e,a1,a2,d,r,l,q,t⟩:=sj O (nrem-(n+1)) p (n+1) 0 (ye3 _) (by lia) h (λa b u z x v=>by
  have e1:a=n:=(qx u z);have y:b=n:=(qx x v);rw[e1,y];exact O.irr _)
 unfold kas_descPart;rw[run_bind,e];dsimp only;split
 ·obtain⟨c,m,o,f,g,k,j,i⟩:=mM O (p:=kas_rev p1 (m1-(w+1)) m1) (n:=m1) (nrem:=nrem) (zZ9 (zZ6 _) l) (aD a2 hn) (by rw[xE];exact zY8 s (zZ7 d.symm)) (q.eqv O (rev_last O (by lia) l t));exact⟨c,m,o,f,g,by rw[k,xE,d],(j.trans (yG _ _ _)).trans r,i⟩
 ·obtain⟨c,m,o,f,g,k,j,i⟩:=mM O (p:=p1) (n:=m1) (nrem:=nrem) (zZ9 (zZ6 _) l) (aD a2 hn) (zY8 s (zZ7 d.symm)) q;exact⟨c,m,o,f,g,by rw[k,d],j.trans r,i⟩
theorem bS (O:Ord lt){p:Array Nat}{nrem:Nat}(h0:0<nrem)(q:nrem<=p.size):
  ∃l m,run lt (kas_count nrem p)=(m,l)/\1<=m/\m<=nrem/\l.size=p.size/\l.Perm p/\Up lt l m:=by
 obtain⟨a,b,c,d⟩:=kf O p (nrem-1) 1 (by decide) (zF3 O p);unfold kas_count;rw[run_bind];generalize run lt (kas_asc p (nrem-1) 1)=n at a b c d;by_cases r:n=nrem
 ·rw[if_pos (by rw[r];simp)];exact⟨p,n,rfl,a,(zZ7 r),rfl,yd6 _,c⟩
 ·rw[if_neg (by simpa using r)];have hd:=d (by lia);by_cases f:n > 1
  ·rw[if_pos f];cases e:lt (p.getD 0 0) (p.getD (n-1) 0)with
   |true=>
    refine⟨p,n,?_,a,by lia,rfl,yd6 _,c⟩;show run lt ((λc=>if c=true then KasT.ret (n,p)else kas_descPart n nrem (kas_rev p 0 n)) (lt (p.getD 0 0) (p.getD (n-1) 0)))=_;rw[e];rfl
   |false=>
    have all:∀k,k<n->Eqv lt (g p k) (g p 0):=λk hk=>⟨c 0 k (zZ6 _) hk,O.tr _ _ _ (c k (n-1) (zv5 hk) (zs5 f)) e⟩;have hD:Down lt (kas_rev p 0 n) (n+1):=by
     have A:Down lt (kas_rev p 0 n) n:=λi j h o=>by
      rw[tL (jJ h0 q b),tL (jJ h0 q b),if_pos (⟨(zZ6 _),(zZ9 h o)⟩),if_pos (⟨(zZ6 _),o⟩)];exact O.tr _ _ _ (all _ (by lia)).2 (all _ (zv4 o)).1
     refine A.succ O (zZ9 (zZ6 _) f) ?_;rw[tL (jJ h0 q b),tL (jJ h0 q b),if_pos (by lia),if_neg (zu3)];have B:lt (g p (n-1)) (g p n)=false:=O.asy _ _ hd;exact O.tr _ _ _ B (O.tr _ _ _ (all (n-1) (zs5 f)).2 (all _ (by lia)).1)
    obtain⟨l,m,z,s,u,x,w,v⟩:=tK O (p:=kas_rev p 0 n) (n:=n) (nrem:=nrem) (zZ9 (zZ6 _) f) (by lia) (by rw[xE];exact q) hD;refine⟨l,m,?_,s,u,by rw[x,xE],w.trans (yG _ _ _),v⟩;rw[<-z];show run lt ((λc=>if c=true then KasT.ret (n,p)else kas_descPart n nrem (kas_rev p 0 n)) (lt (p.getD 0 0) (p.getD (n-1) 0)))=_;rw[e];rfl
  ·rw[if_neg f];have e1:n=1:=(z77 (z72 f) a);subst e1;refine tK O (by decide) (by lia) q ?_;have t:Down lt p 1:=λi j h o=>by
    have e1:i=0:=(zy6 o h);have y:j=0:=(zt8 o);rw[e1,y];exact O.irr _
   exact t.succ O (by decide) (O.asy _ _ hd)
theorem sq (O:Ord lt){p:Array Nat}{k:Nat}(U:Up lt p k):∀(f l r:Nat),r<=l+f->l<=r->r<=k->(∀i,i<l->lt (g p k) (g p i)=false)->(∀i,r<=i->i<k->lt (g p k) (g p i)=true)->
  run lt (kas_place p k f l r)<=k/\(∀i,i<run lt (kas_place p k f l r)->lt (g p k) (g p i)=false)/\(∀i,run lt (kas_place p k f l r)<=i->i<k->lt (g p k) (g p i)=true)
 |0,l,r,n,h,d,ha,hb=>by
  show l<=k/\_;exact⟨(zY8 h d),ha,λi x y=>hb i (by have:l<=i:=x;lia) y⟩
 |f+1,l,r,n,h,d,ha,hb=>by
  by_cases a:l≥r
  ·have b:run lt (kas_place p k (f+1) l r)=l:=by
    show run lt (if l≥r then _ else _)=_;rw[if_pos a];rfl
   rw[b];exact⟨(zY8 h d),ha,λi x y=>hb i (zY8 a x) y⟩
  ·cases e:lt (p.getD k 0) (p.getD ((l+r) / 2) 0)with
   |true=>
    have b:run lt (kas_place p k (f+1) l r)=run lt (kas_place p k f l ((l+r) / 2)):=by
     show run lt (if l≥r then _ else _)=_;rw[if_neg a];show run lt ((λc=>if c=true then kas_place p k f l ((l+r) / 2)else kas_place p k f ((l+r) / 2+1) r) (lt (p.getD k 0) (p.getD ((l+r) / 2) 0)))=_;rw[e];rfl
    rw[b];refine sq O U f l ((l+r) / 2) (by lia) (by lia) (by lia) ha λi x y=>?_;cases e3:lt (g p k) (g p i)with
    |true=>rfl
    |false=>
     have m:lt (g p k) (g p ((l+r) / 2))=false:=O.tr _ _ _ (U ((l+r) / 2) i x y) e3;have j:lt (g p k) (g p ((l+r) / 2))=true:=e;rw[m]at j;cases j
   |false=>
    have b:run lt (kas_place p k (f+1) l r)=run lt (kas_place p k f ((l+r) / 2+1) r):=by
     show run lt (if l≥r then _ else _)=_;rw[if_neg a];show run lt ((λc=>if c=true then kas_place p k f l ((l+r) / 2)else kas_place p k f ((l+r) / 2+1) r) (lt (p.getD k 0) (p.getD ((l+r) / 2) 0)))=_;rw[e];rfl
    rw[b];exact sq O U f ((l+r) / 2+1) r (by lia) (by lia) d (λi hi=>O.tr _ _ _ (U i ((l+r) / 2) (z75 hi) (by lia)) e) hb
theorem gD (O:Ord lt){p:Array Nat}{k l:Nat}(hk:k<p.size)(n:l<=k)(U:Up lt p k)(ha:∀i,i<l->lt (g p k) (g p i)=false)(hb:∀i,l<=i->i<k->lt (g p k) (g p i)=true):Up lt (bubble p k (k-l)) (k+1):=by
 have e:∀i,g (bubble p k (k-l)) i=if i=l then g p k else if l<i/\i<=k then g p (i-1)else g p i:=λi=>by
  have h:=getElem?_bubble hk (k-l) (Nat.sub_le _ _) i;have o:k-(k-l)=l:=by lia
  rw[o]at h;by_cases c:i=l
  ·rw[if_pos c]at h ⊢;exact bx h
  ·rw[if_neg c]at h ⊢;by_cases m:l<i/\i<=k
   ·rw[if_pos m]at h ⊢;exact bx h
   ·rw[if_neg m]at h ⊢;exact bx h
 intro i j a b;have gl:g (bubble p k (k-l)) l=g p k:=by rw[e,if_pos rfl]
 have d:∀i,l<i->i<=k->g (bubble p k (k-l)) i=g p (i-1):=λi x y=>by rw[e,if_neg (z70 x),if_pos ⟨x,y⟩]
 have f:∀i,i<l->g (bubble p k (k-l)) i=g p i:=λi x=>by rw[e,if_neg (z01 x),if_neg (by lia)]
 rcases Nat.lt_trichotomy i l with hi|hi|hi
 ·rw[f i hi];rcases Nat.lt_trichotomy j l with h|h|h
  ·rw[f j h];exact U _ _ (a) (zX9 h n)
  ·rw[h,gl];exact ha i hi
  ·rw[d j h (z75 b)];exact U _ _ (by lia) (zs6 b h)
 ·rw[hi,gl];rcases Nat.lt_trichotomy j l with h|h|h
  ·exact(z36 _ (zX9 h (zY8 (zZ7 hi.symm) a))).elim
  ·rw[h,gl];exact O.irr _
  ·rw[d j h (z75 b)];exact O.asy _ _ (hb (j-1) (zv5 h) (zs6 b h))
 ·rw[d i hi (z75 (zZ9 a b)),d j (zX9 hi a) (z75 b)];exact U _ _ (by lia) (by lia)
theorem cW (O:Ord lt):∀(f:Nat) (p:Array Nat) (k:Nat),0<k->k+f<=p.size->Up lt p k->(run lt (kas_bin f p k)).size=p.size/\(run lt (kas_bin f p k)).Perm p/\Up lt (run lt (kas_bin f p k)) (k+f)
 |0,p,k,_,_,U=>⟨rfl,yd6 _,U⟩
 |f+1,p,k,hk,hs,U=>by
  obtain⟨a,b,c⟩:=sq O U k 0 k (Nat.le_add_left _ _) (zZ6 _) (zY3 _) (λi hi=>(z36 _ (zZ9 (zZ6 _) hi)).elim) (λi x y=>(z36 _ (zX9 y x)).elim);have d:run lt (kas_bin (f+1) p k)=run lt (kas_bin f (bubble p k (k-run lt (kas_place p k k 0 k))) (k+1)):=by
   show run lt ((kas_place p k k 0 k).bind _)=_;rw[run_bind]
  rw[d];obtain⟨x,y,z⟩:=cW O f (bubble p k (k-run lt (kas_place p k k 0 k))) (k+1) (ye3 _) (by rw[bubble_size];exact jA hs) (gD O (by lia) a U b c);have e:k+(f+1)=k+1+f:=zK5;rw[e];exact⟨by rw[x,bubble_size],y.trans (bubble_perm _ _ _),z⟩
theorem zi4 (O:Ord lt){n:Nat}(h:0<n):(run lt (kas_sort n)).size=n/\(run lt (kas_sort n)).Perm (List.range n).toArray/\Up lt (run lt (kas_sort n)) n:=by
 obtain⟨p,m,e,a,b,c,d,u⟩:=bS O (p:=(List.range n).toArray) (nrem:=n) h (by simp);unfold kas_sort;rw[run_bind,e];dsimp only;have f:p.size=n:=by rw[c];simp
 by_cases hm:m<n
 ·rw[if_pos hm];have em:max m 1=m:=by lia
  rw[em];obtain⟨x,y,z⟩:=cW O (n-m) p m (by lia) (by lia) u;refine⟨by rw[x,f],y.trans d,?_⟩;have e:m+(n-m)=n:=by lia
  rw[e]at z;exact z
 ·rw[if_neg hm];have e:m=n:=(z77 b (z72 hm));subst e;exact⟨f,d,u⟩
end SortA
namespace SortA
open PySem PySem.W PyProof.Rows
def xI {α:Type}(n:Nat)(P:α->Prop):KasT α->Prop
 |.ret a=>P a
 |.ask i j k=>i<n/\j<n/\∀b,xI n P (k b)
theorem xI.bind {α β:Type}{n:Nat}{P:α->Prop}{d:β->Prop}{f:α->KasT β}(e:∀a,P a->xI n d (f a)):∀t:KasT α,xI n P t->xI n d (t.bind f)
 |.ret a,h=>e a h
 |.ask i j k,⟨a,b,c⟩=>⟨a,b,λx=>xI.bind e (k x) (c x)⟩
def Bd (n:Nat)(p:Array Nat):Prop:=∀x∈p,x<n
theorem Bd.get {n:Nat}{p:Array Nat}(h:Bd n p)(hn:0<n)(i:Nat):p.getD i 0<n:=by
 by_cases hi:i<p.size
 ·have e:p.getD i 0=p[i]:=by simp[Array.getD,hi]
  rw[e];exact h _ (Array.getElem_mem hi)
 ·have e:p.getD i 0=0:=by simp[Array.getD,hi]
  rw[e];exact hn
theorem Bd.perm {n:Nat}{p q:Array Nat}(h:Bd n p)(e:q.Perm p):Bd n q:=λx a=>h x (e.mem_iff.mp a)
theorem rM {n:Nat}{p:Array Nat}(B:Bd n p)(hn:0<n):∀f k,xI n (λ_=>True) (kas_asc p f k)
 |0,_=>trivial
 |f+1,k=>⟨B.get hn _,B.get hn _,λb=>by
  cases b with
  |true=>exact trivial
  |false=>exact rM B hn f (k+1)⟩
theorem vI {n:Nat}(hn:0<n):∀f (p:Array Nat) k q,Bd n p->xI n (λr:Array Nat×Nat×Nat=>Bd n r.1) (kas_desc f p k q)
 |0,_,_,_,B=>B
 |f+1,p,k,q,B=>⟨B.get hn _,B.get hn _,λb=>by
  cases b with
  |true=>
   show xI n _ (if q > 0 then _ else _);split
   ·exact vI hn f _ _ _ (B.perm (yG _ _ _))
   ·exact vI hn f _ _ _ B
  |false=>
   refine⟨B.get hn _,B.get hn _,λb=>?_⟩;cases b with
   |true=>exact B
   |false=>exact vI hn f _ _ _ B⟩
theorem rh {n:Nat}{p:Array Nat}(B:Bd n p)(hn:0<n)(m r:Nat):xI n (λr:Nat×Array Nat=>Bd n r.2) (kas_tail3 m r p):=by
 unfold kas_tail3;refine xI.bind (P:=λ_=>True) (λa _=>?_) _ (rM (B.perm (yG _ _ _)) hn _ _);exact B.perm (yG _ _ _)
theorem vM {n:Nat}{p:Array Nat}(B:Bd n p)(hn:0<n)(m r:Nat):xI n (λr:Nat×Array Nat=>Bd n r.2) (kas_descPart m r p):=
 xI.bind (λa ha=>by
  split
  ·exact rh (Bd.perm ha (yG _ _ _)) hn _ _
  ·exact rh ha hn _ _) _ (vI hn _ _ _ _ B)
theorem lG {n:Nat}{p:Array Nat}(B:Bd n p)(hn:0<n)(r:Nat):xI n (λr:Nat×Array Nat=>Bd n r.2) (kas_count r p):=
 xI.bind (λa _=>by
  split
  ·exact B
  ·split
   ·refine⟨B.get hn _,B.get hn _,λb=>?_⟩;cases b with
    |true=>exact B
    |false=>exact vM (B.perm (yG _ _ _)) hn _ _
   ·exact vM B hn _ _) _ (rM B hn _ _)
theorem vZ {n:Nat}{p:Array Nat}(B:Bd n p)(hn:0<n)(k:Nat):∀f l r,xI n (λ_=>True) (kas_place p k f l r)
 |0,_,_=>trivial
 |f+1,l,r=>by
  show xI n _ (if l≥r then _ else _);split
  ·exact trivial
  ·refine⟨B.get hn _,B.get hn _,λb=>?_⟩;cases b with
   |true=>exact vZ B hn k f _ _
   |false=>exact vZ B hn k f _ _
theorem ny {n:Nat}(hn:0<n):∀f (p:Array Nat) k,Bd n p->xI n (λ_=>True) (kas_bin f p k)
 |0,_,_,_=>trivial
 |f+1,p,k,B=>xI.bind (λl _=>ny hn f _ _ (B.perm (bubble_perm _ _ _))) _ (vZ B hn k _ _ _)
theorem eE {n:Nat}(hn:0<n):xI n (λ_=>True) (kas_sort n):=
 xI.bind (λa ha=>by
  split
  ·exact ny hn _ _ _ ha
  ·exact trivial) _ (lG (λx b=>by simpa using b) hn n)
theorem wp_run {α:Type}{n:Nat}{P:α->Prop}{cmp:Nat->Nat->(Bool->Shared->Prop)->Shared->Prop}{lt:Nat->Nat->Bool}{Q:α->Shared->Prop}{s:Shared}(d:∀i j C,i<n->j<n->C (lt i j) s->cmp i j C s):
  ∀t:KasT α,xI n P t->Q (run lt t) s->t.kasWp cmp Q s
 |.ret _,_,h=>h
 |.ask i j k,⟨a,b,c⟩,h=>d i j _ a b (wp_run d (k (lt i j)) (c _) h)
def lx (p q:Int×Int):Bool:=decide (p.1<q.1\/(p.1=q.1/\p.2<q.2))
def at2 (ps:List (Int×Int))(i:Nat):Int×Int:=ps.getD i (0,0)
theorem zH6 (ps:List (Int×Int)):Ord λi j=>lx (at2 ps i) (at2 ps j) where
 irr:=λa=>by simp[lx]
 tr:=λa b c=>by
  unfold lx;generalize at2 ps a=x;generalize at2 ps b=y;generalize at2 ps c=z;simp only[z91]
  lia
 asy:=λa b=>by
  unfold lx;generalize at2 ps a=x;generalize at2 ps b=y;simp only[z91,z50]
  lia
theorem jd (ps:List (Int×Int))(h:0<ps.length):∃d:List Nat,run (λi j=>lx (at2 ps i) (at2 ps j)) (kas_sort ps.length)=d.toArray/\d.length=ps.length/\(∀i∈d,i<ps.length)/\(d.map (at2 ps)).Perm ps/\(d.map (at2 ps)).Pairwise (λp q=>lx q p=false):=by
 obtain⟨a,b,c⟩:=zi4 (zH6 ps) h;generalize run (λi j=>lx (at2 ps i) (at2 ps j)) (kas_sort ps.length)=r at a b c;have e:(List.range ps.length).map (at2 ps)=ps:=by
  apply List.ext_getElem
  ·simp
  ·intro i f o;simp[at2,o]
 have pl:r.toList.Perm (List.range ps.length):=by
  have:=Array.perm_iff_toList_perm.mp b;simpa using this
 refine⟨r.toList,by simp,by simpa using a,λi hi=>by simpa using pl.mem_iff.mp hi,?_,?_⟩
 ·have:=pl.map (at2 ps);rw[e]at this;exact this
 ·rw[List.pairwise_map,List.pairwise_iff_getElem];intro i j hi m k;have f:j<r.size:=by simpa using m
  have:=c i j (z30 k) (by rw[<-a];exact f);have n:g r i=r.toList[i]:=by
   have:i<r.size:=by lia
   simp[g,Array.getD,this]
  have l:g r j=r.toList[j]:=by simp[g,Array.getD,f]
  rw[n,l]at this;exact this
end SortA
namespace L2
open PySem PySem.Spec PySem.Calls PySem.W PyProof.Rows SortA
section
variable {prog:Program}{w:World}{A:Around}{E:Value->Shared->Prop}{s:Shared}
def Prs (h:Heap):List Value->List (Int×Int)->Prop
 |[],[]=>True
 |v::vs,p::ps=>(∃a o t u n,v=.ref a/\h.get? a=some o/\o.cls=.type "tuple"/\o.data=.seq #[.int p.1 t,.int p.2 u] n)/\Prs h vs ps
 |_,_=>False
theorem Prs.len {h:Heap}:∀{vs:List Value}{ps:List (Int×Int)},Prs h vs ps->vs.length=ps.length
 |[],[],_=>rfl
 |[],_::_,h=>h.elim
 |_::_,[],h=>h.elim
 |_::_,_::_,⟨_,h⟩=>by simp[Prs.len h]
theorem Prs.at {h:Heap}:∀{vs:List Value}{ps:List (Int×Int)} (i:Nat),Prs h vs ps->i<ps.length->∃a o t u n,vs.getD i Value.none=.ref a/\h.get? a=some o/\o.cls=.type "tuple"/\o.data=.seq #[.int (at2 ps i).1 t,.int (at2 ps i).2 u] n
 |[],[],_,_,hi=>by simp at hi
 |[],_::_,_,h,_=>h.elim
 |_::_,[],_,h,_=>h.elim
 |_::_,_::_,0,⟨x,_⟩,_=>x
 |_::_,_::_,i+1,⟨_,r⟩,hi=>by
  obtain⟨a,o,t,u,n,e,q⟩:=Prs.at i r (by simpa using hi);exact⟨a,o,t,u,n,by simpa using e,q⟩
theorem Prs.tups {h:Heap}:∀{vs:List Value}{ps:List (Int×Int)},Prs h vs ps->∃fs:List Value,KatTups h vs fs/\fs.length=ps.length/\∀v∈fs,∃i t,v=.int i t
 |[],[],_=>⟨[],trivial,rfl,λ_ h=>by simp at h⟩
 |[],_::_,h=>h.elim
 |_::_,[],h=>h.elim
 |_::_,p::_,⟨⟨a,o,t,u,n,e,c,d,hd⟩,r⟩=>by
  obtain⟨fs,x,y,z⟩:=Prs.tups r;subst e;refine⟨.int p.1 t::fs,KatTups.cons c d hd (by simp) x,by simp[y],λv b=>?_⟩;rcases zY2.mp b with rfl|b
  ·exact⟨_,_,rfl⟩
  ·exact z v b
theorem aM {a b:Addr}{f ob:Obj}{p q:Int×Int}{t u t' g:Tok}{n k:Nat}{Q:Bool->Shared->Prop}(ha:s.heap.get? a=some f)(i:f.data=.seq #[.int p.1 t,.int p.2 u] n)(hb:s.heap.get? b=some ob)(db:ob.data=.seq #[.int q.1 t',.int q.2 g] k)
  (h:Q (lx p q) s):wpAny (model prog w) A (keyLt' (tuples' true) (.ref a) (.ref b)) Q E s:=by
 refine kat_lt ha i hb db (kat_cons (wpAny_eqBool_int ?_));by_cases e:p.1=q.1
 ·have e1:(p.1 == q.1)=true:=by simp[e]
  rw[e1];refine kat_yes (kat_cons (wpAny_eqBool_int ?_));by_cases c:p.2=q.2
  ·have d:(p.2 == q.2)=true:=by simp[c]
   rw[d];refine kat_yes (kat_nil ?_);have:lx p q=false:=by simp[lx,e,c]
   rw[this]at h;simpa using h
  ·have d:(p.2 == q.2)=false:=by simp[c]
   rw[d];refine kat_no (kat_one _ _ (wpAny_lt_int ?_));have:lx p q=decide (p.2<q.2):=by simp[lx,e]
   rw[this]at h;exact h
 ·have e1:(p.1 == q.1)=false:=by simp[e]
  rw[e1];refine kat_no (oneLt_int ?_);have:lx p q=decide (p.1<q.1):=by simp[lx,e]
  rw[this]at h;exact h
theorem kA {vs:List Value}{ps:List (Int×Int)}(d:2<=vs.length)(P:Prs s.heap vs ps){R:Array Nat->Shared->Prop}(hr:∀c:List Nat,c.length=ps.length->(∀i∈c,i<ps.length)->(c.map (at2 ps)).Perm ps->(c.map (at2 ps)).Pairwise (λp q=>lx q p=false)->R c.toArray s):
  wpAny (model prog w) A (keyKind' vs.toArray) (λh s'=>(kas_sort vs.length).kasWp (kas_ask prog w A h vs) R s') (λ_ _=>False) s:=by
 obtain⟨fs,t,D,hi⟩:=P.tups;have hlen:=P.len;refine kat_kind (T:=.type "int") t (by lia) (λv y=>?_) (by decide) ?_
 ·obtain⟨i,t,rfl⟩:=hi v y;exact .now
 ·have e:(Value.type "int" != Value.type "tuple")=true:=by decide
  rw[e];obtain⟨c,e1,l,z,f,r⟩:=jd ps (zx6 d hlen);rw[hlen];refine wp_run (n:=ps.length) (P:=λ_=>True) (lt:=λi j=>lx (at2 ps i) (at2 ps j)) (λi j C hi k B=>?_) _ (eE (zx6 d hlen)) ?_
  ·obtain⟨a,o,t,u,n,g,ha,_,x⟩:=P.at i hi;obtain⟨b,o',t',F,G,m,hb,_,db⟩:=P.at j k;unfold kas_ask;rw[g,m];exact aM ha x hb db B
  ·rw[e1];exact hr c l z f r
def Srt (vs:List Value)(ps:List (Int×Int))(out:List Value):Prop:=
 ∃a:List Nat,out=a.map (λi=>vs.getD i Value.none)/\a.length=ps.length/\(∀i∈a,i<ps.length)/\(a.map (at2 ps)).Perm ps/\(a.map (at2 ps)).Pairwise (λp q=>lx q p=false)
theorem Srt.len {vs:List Value}{ps:List (Int×Int)}{out:List Value}(h:Srt vs ps out):out.length=ps.length:=by
 obtain⟨a,rfl,e,_⟩:=h;simp[e]
end
inductive PrV (H:Hp):List V->List (Int×Int)->Prop where
 |nil:PrV H [] []
 |cons {a:Addr}{xs:List V}{p:Int×Int}{ps:List (Int×Int)}:H a=some (.tup [.int p.1,.int p.2])->PrV H xs ps->PrV H (.ref a::xs) (p::ps)
section
variable {X:Cx}{pins:List (Addr×Obj)}{σ:St}{H H':Hp}{s:Shared}
theorem PrV.len {xs:List V}{ps:List (Int×Int)}(h:PrV H xs ps):xs.length=ps.length:=by
 induction h with
 |nil=>rfl
 |cons _ _ a=>simp[a]
theorem PrV.keep {xs:List V}{ps:List (Int×Int)}(k:∀a p q,H a=some (.tup [.int p,.int q])->H' a=some (.tup [.int p,.int q]))(h:PrV H xs ps):PrV H' xs ps:=by
 induction h with
 |nil=>exact .nil
 |cons e _ b=>exact .cons (k _ _ _ e) b
theorem PrV.app {xs ys:List V}{ps a:List (Int×Int)}(h:PrV H xs ps)(h':PrV H ys a):PrV H (xs++ys) (ps++a):=by
 induction h with
 |nil=>exact h'
 |cons e _ b=>exact .cons e b
theorem PrV.prs (I:Inv X pins σ H s):∀{xs:List V}{ps:List (Int×Int)}{us:List Value},PrV H xs ps->Vals xs us->Prs s.heap us ps:=by
 intro xs ps us h
 induction h generalizing us with
 |nil=>intro r;cases r;exact trivial
 |@cons a xs p ps e _ ih=>
  intro r;cases r with
  |cons r c=>
   cases(show _=Value.ref a from r);obtain⟨_,its,d,o,b,f,n,hd⟩:=(show zD X.prog X.w H s.heap a (.tup [.int p.1,.int p.2])from I.hok a _ e);obtain⟨u,v,rfl,⟨t,rfl⟩,⟨t',rfl⟩⟩:=Vals.two d;exact⟨⟨a,o,t,t',n,rfl,b,f,hd⟩,ih c⟩
theorem nk {xs:List V}{us:List Value}(r:Vals xs us):∀i x,xs[i]?=some x->RelV x (us.getD i Value.none):=by
 induction r with
 |nil=>intro i x h;simp at h
 |cons e _ a=>
  intro i x h;cases i with
  |zero=>have h':=z09 (by simpa using h);subst h';exact e
  |succ i=>exact a i x (by simpa using h)
end
end L2
namespace Days
end Days
namespace L2
open PySem PySem.Spec PyProof.Rows Days
section
variable {X:Cx}{α:Ev}{e a b c tg:Expr}{pos p:Pos}{Q:PyData->Prop}{E:yi}{sts:List Stmt}
end
section
variable {X:Cx}{α:Ev}{tg:Expr}{pos p:Pos}{E:yi}{sts body:List Stmt}
end
def isNone :PyData->Bool
 |.none=>true
 |_=>false
abbrev eqS (d:PyData)(s:Str):Bool:=PyData.eqv d (.str s)
abbrev sO :PyData->Bool:=yI 0 1000000000000
def rS :PyData->Bool
 |.tuple [.int m,f]=>yI 2 14 (.int m)&&yI 1 (m-1) f
 |_=>false
def zQ (w v:PyData):Bool:=
 if eqS w "price"=true then isNone v||sO v
 else if(eqS w "come"||eqS w "go")=true then isBool v
 else if(eqS w "least"||eqS w "most")=true then yI 1 14 v
 else if eqS w "deal"=true then isNone v||rS v
 else eqS w "fee"&&sO v
def xC :PyData->Bool
 |.tuple [w,a,b,v]=>vh (.tuple [a,b])&&zQ w v
 |_=>false
abbrev words :List Str:=["price","come","go","least","most","deal","fee"]
def zK7 (x y z:V):List (Str×V):=xR "worth" z (xR "last" y (xR "first" x []))
structure Cs where
 price:Addr
 come:Addr
 go:Addr
 least:Addr
 most:Addr
 deal:Addr
 fee:Addr
def Cs.of (c:Cs)(w:Str):Addr:=
 if w="price" then c.price else if w="come" then c.come else if w="go" then c.go else if w="least" then c.least else if w="most" then c.most else if w="deal" then c.deal else c.fee
structure tO (K:PySem.W.Frag)(C fI fT fE fW:Addr):Prop where
 cl:Cls K C
 nf:yu K C "first"
 nl:yu K C "last"
 nw:yu K C "worth"
 makes:Mk K C fI
 told:Meth K C "told" fT
 tells:Meth K C "tells" fE
 word:Meth K C "word" fW
theorem wD {d:PyData}{s:Str}(h:eqS d s=true):d=.str s:=by
 cases d with
 |str x=>
  have h':(x == s)=true:=h;rw[eq_of_beq h']
 |_=>simp[PyData.eqv]at h
theorem ml {w v:PyData}(h:zQ w v=true):∃s∈words,w=.str s:=by
 unfold zQ at h;split at h
 ·rename_i e;exact⟨"price",by simp[words],wD e⟩
 ·split at h
  ·rename_i e;rcases(ya9 _ _).mp e with e|e
   ·exact⟨"come",by simp[words],wD e⟩
   ·exact⟨"go",by simp[words],wD e⟩
  ·split at h
   ·rename_i e;rcases(ya9 _ _).mp e with e|e
    ·exact⟨"least",by simp[words],wD e⟩
    ·exact⟨"most",by simp[words],wD e⟩
   ·split at h
    ·rename_i e;exact⟨"deal",by simp[words],wD e⟩
    ·rw[z07]at h;exact⟨"fee",by simp[words],wD h.1⟩
theorem tu {d:PyData}(h:xC d=true):∃(s:Str) (a b v:PyData),s∈words/\d=.tuple [.str s,a,b,v]:=by
 unfold xC at h;split at h
 ·rename_i w a b v;rw[z07]at h;obtain⟨s,c,rfl⟩:=ml h.2;exact⟨s,a,b,v,c,rfl⟩
 ·cases h
section
variable {X:Cx}
end
abbrev vb (C:Addr)(fs:List (PyData×PyData)):PyData:=.dict ((.int (C:Nat),.none)::fs)
def rF :List (PyData×PyData)->Str->Option PyData
 |[],_=>none
 |(.str g,d)::r,f=>if f=g then some d else rF r f
 |_::r,f=>rF r f
theorem AVf.get {H:Hp}:∀{fs:List (Str×V)}{ds:List (PyData×PyData)}{f:Str}{d:PyData},AVf H fs ds->rF ds f=some d->∃v,fs.lookup f=some v/\AV H v d
 |_,_,f,d,.nil,e=>by cases e
 |_,_,f,d,.cons (f:=g) h r,e=>by
  rw[z42];unfold rF at e;by_cases z:f=g
  ·subst z;rw[if_pos rfl]at e;cases e;exact⟨_,by simp,h⟩
  ·rw[if_neg z]at e;have a:(f == g)=false:=by simpa using z
   rw[a];exact AVf.get r e
theorem AVf.none {H:Hp}{fs:List (Str×V)}{ds:List (PyData×PyData)}{f:Str}(h:AVf H fs ds)(e:rF ds f=Option.none):fs.lookup f=Option.none:=by
 induction h using AVf.ind with
 |nil=>rfl
 |@cons g _ _ _ _ h r ih=>
  rw[z42];unfold rF at e;by_cases z:f=g
  ·subst z;rw[if_pos rfl]at e;cases e
  ·rw[if_neg z]at e;have a:(f == g)=false:=by simpa using z
   rw[a];exact ih e
theorem AV.ins_inv {H:Hp}{v:V}{C:Addr}{ds:List (PyData×PyData)}(h:AV H v (vb C ds)):∃a dx fs,v=.ref a/\H a=some (.ins C dx fs)/\AVf H fs ds:=by
 generalize e:vb C ds=d at h;cases h with
 |@ins a b dx fs ds' h1 h2=>
  injection e with e;injection e with e1 c;have g:(C:Int)=(b:Int):=by
   have:=congrArg Prod.fst e1;injection this
  have f:C=b:=Int.ofNat.inj g;subst f c;exact⟨a,dx,fs,rfl,h1,h2⟩
 |_=>cases e
section
variable {X:Cx}{α:Ev}{o e:Expr}{es:List Expr}{pos apos p:Pos}{Q:PyData->Prop}{C:Addr}{f m:Str}
theorem wY (c:Cls X.K C)(na:yu X.K C f)(h:EvD X α o λx=>∃fs d,x=vb C fs/\rF fs f=some d/\Q d)(hb:attributeBase o f X.env (eval o X.env)=eval o X.env:=by rfl):EvD X α (.Attribute o f pos) Q:=λF σ H R m k=>by
 refine⟨_,zG4 zf hb,?_⟩;refine h F σ H _ m λx r H1 i t1 k1 n=>?_;obtain⟨fs,d,rfl,hf,q⟩:=i;obtain⟨a,dx,b,rfl,g,l⟩:=n.ins_inv;obtain⟨v,j,av⟩:=l.get hf;exact⟨a,C,dx,b,v,rfl,(zb g).2,c,na,j,k d v H1 q t1 k1 av⟩
structure xJ (P:Program)(w:World)(K:PySem.W.Frag)(mg:Str->Option Value)(base:Heap)(C:Addr)(m:Str)(k:Nat)(φ:List A->(A->Prop)->Prop):Prop where
 ex:∃f fd ps,Cls K C/\Meth K C m f/\Binds K fd ps []/\yv P w K mg base CX0 k f fd ps (spA φ)
theorem pI {k:Nat}{φ:List A->(A->Prop)->Prop}{pl:Sem Bool}(u:xJ X.prog X.w X.K X.mg X.base C m k φ)(hr:zG k X.A)(h:EvD X α o λx=>∃fs,x=vb C fs/\rF fs m=none/\EvA X α (e::es) λas=>φ (.dat (vb C fs)::as) λa=>Q a.d)
  (b:starEach (e::es) X.env=(false,eval e X.env)::starEach es X.env:=by rfl) (hpl:(backTo pos (starEach es X.env)).any (·.1)=false:=by rfl)
  (t:eval (.Call (.Attribute o m apos) (e::es) [] pos) X.env=(do
   let ov <-eval o X.env
   standAt apos.atName
   let(f,first) <-holding [ov] (getMethod ov m pl)
   callWith pos f first (backTo pos (starEach (e::es) X.env)) (backToKw pos (keywordEach [] X.env))):=by rfl):EvD X α (.Call (.Attribute o m apos) (e::es) [] pos) Q:=λF σ H R i s=>by
 obtain⟨f,fd,ps,c,hm,hb,G⟩:=u.ex;refine⟨_,zr2 zf c hm G hr hb .nil lg yt b hpl t,?_⟩;refine h F σ H _ i λx L H1 D t1 k1 g=>?_;obtain⟨fs,rfl,hf,q⟩:=D;have m1:=i.kz k1 t1;obtain⟨a,dx,y,rfl,l,J⟩:=g.ins_inv;refine⟨a,dx,y,rfl,(zb l).2,J.none hf,?_⟩;refine q F σ H1 _ m1 λas vs M I t2 k2 j=>?_;have m2:=m1.kz k2 t2;have B:=wH (vs:=.ref a::vs) (as:=.dat (vb C fs)::as) (R:=R) (E:=E0) m2 (.cons (g.same (k2.gz m1.tp)) j) I λz v H' n r=>by
  obtain⟨g1,g2,g3⟩:=r.back m2;exact s _ v H' n g1 ((k1.trans k2).trans g2) g3
 exact B
theorem rN {k:Nat}{φ:List A->(A->Prop)->Prop}{pl:Sem Bool}(s:xJ X.prog X.w X.K X.mg X.base C m k φ)(hr:zG k X.A)(h:EvD X α o λx=>∃fs,x=vb C fs/\rF fs m=none/\φ [.dat (vb C fs)] λa=>Q a.d)
  (r:eval (.Call (.Attribute o m apos) [] [] pos) X.env=(do
   let ov <-eval o X.env
   standAt apos.atName
   let(f,first) <-holding [ov] (getMethod ov m pl)
   callWith pos f first (backTo pos (starEach [] X.env)) (backToKw pos (keywordEach [] X.env))):=by rfl):EvD X α (.Call (.Attribute o m apos) [] [] pos) Q:=λF σ H R g n=>by
 obtain⟨f,fd,ps,c,hm,hb,G⟩:=s.ex;refine⟨_,eR zf c hm G hr hb .nil lg r,?_⟩;refine h F σ H _ g λx D H1 y t1 k1 b=>?_;obtain⟨fs,rfl,hf,q⟩:=y;have m1:=g.kz k1 t1;obtain⟨a,dx,t,rfl,i,B⟩:=b.ins_inv;refine⟨a,dx,t,rfl,(zb i).2,B.none hf,?_⟩;have u:=wH (vs:=[.ref a]) (as:=[.dat (vb C fs)]) (R:=R) (E:=E0) m1 (.cons b .nil) q λz v H' j l=>by
  obtain⟨g1,g2,g3⟩:=l.back m1;exact n _ v H' j g1 (k1.trans g2) g3
 exact u
def zg1 (F:Fr)(v:V)(H':Hp)(d:PyData):Prop:=zA F H'/\Kz F F.H0 H'/\AV (sub (λx=>¬F.O0 x/\∀xs,F.H0 x≠some (.lst xs)) H') v d
def EvN (X:Cx)(α:Ev)(e:Expr)(Q:PyData->Prop):Prop:=∀(F:Fr) (σ:St) (H:Hp) (R:VK),M F α σ H->(∀d v H',Q d->zA F H'->Kz F H H'->AV (sub (λx=>¬Ow F α σ x/\∀xs,H x≠some (.lst xs)) H') v d->R v H')->uz X e σ H R
theorem EvN.d (h:EvN X α e Q):EvD X α e Q:=λF σ H R m k=>h F σ H R m λd v H' q t z r=>k d v H' q t z (r.same (zm λa o h e=>⟨h.1,e⟩))
def spI (C:Addr)(φ:List A->(A->Prop)->Prop):Sp:=λvs H a _=>∃(F:Fr) (as:List A) (Q:A->Prop) (x dx:Addr) (vs':List V) (H1:Hp),vs=.ref x::vs'/\H1 x=none/\H1 dx=none/\dx≠x/\H=upd (upd H1 dx (.own x)) x (.ins C dx [])/\
 F.H0=H1/\zA F H1/\(∀y,F.O0 y->∃u,H1 y=some u/\wb u)/\zT F (sub (λy=>¬F.O0 y) H1) vs' as/\φ as Q/\∀d H',Q (.dat d)->zg1 F (.ref x) H' d->a .non H'
structure ur (P:Program)(w:World)(K:PySem.W.Frag)(mg:Str->Option Value)(base:Heap)(x:Str)(k:Nat)(dvs:List V)(φ:List A->(A->Prop)->Prop):Prop where
 ex:∃C f fd ps ds,mg x=some (.ref C)/\Mk K C f/\Binds K fd ps ds/\Vals dvs ds/\yv P w K mg base CX0 k f fd ps (spI C φ)
theorem lH {F:Fr}{σ:St}{H:Hp}{vs:List V}{as:List A}{b:A->Prop}{R:VK}{φ:List A->(A->Prop)->Prop}(m:M F α σ H)(i:zT F (Gz F α σ H) vs as)(a:φ as b)
  (k:∀d v H',b (.dat d)->zg1 ⟨H,Ow F α σ,F.tp⟩ v H' d->R v H') {E:XK} (x dx:Addr) (j:H x=none) (hdx:H dx=none) (hne:dx≠x):spI C φ (.ref x::vs) (upd (upd H dx (.own x)) x (.ins C dx [])) (λv h=>v=.non/\R (.ref x) h) E:=by
 refine⟨⟨H,Ow F α σ,F.tp⟩,as,b,x,dx,vs,H,rfl,j,hdx,hne,rfl,rfl,?_,?_,?_,a,λd H' c g=>⟨rfl,k d _ H' c g⟩⟩
 ·exact m.tp.to rfl λ_ z=>.inl z
 ·exact λy z=>m.owEx z
 ·exact zT.to (F:=F) (F':=⟨H,Ow F α σ,F.tp⟩) (λ_ _ e=>e) rfl i
theorem zg1.back {F:Fr}{σ:St}{H H1 H':Hp}{v:V}{d:PyData}(m:M F α σ H)(k1:Kz F H H1)(h:zg1 ⟨H1,Ow F α σ,F.tp⟩ v H' d):zA F H'/\Kz F H1 H'/\AV (sub (λx=>¬Ow F α σ x/\∀xs,H x≠some (.lst xs)) H') v d:=by
 obtain⟨t,kz,r⟩:=h;refine⟨m.tp.re t rfl,kz,r.same (zm λa o h e=>⟨⟨h.1,λxs z=>h.2 xs (k1 _ _ z (m.tp.nt (ow0 h.1)))⟩,e⟩)⟩
theorem pC {k:Nat}{φ:List A->(A->Prop)->Prop}{x:Str}(l:ur X.prog X.w X.K X.mg X.base x k [] φ)(hr:zG (k+1) X.A)(hg:Gl X x)(h:EvA X α (e::es) λas=>φ as λa=>Q a.d)
  (b:(x == ("__debug__":Str))=false:=by decide) (he:starEach (e::es) X.env=(false,eval e X.env)::starEach es X.env:=by rfl) (hpl:(backTo pos (starEach es X.env)).any (·.1)=false:=by rfl):EvN X α (.Call (.Name x p) (e::es) [] pos) Q:=λF σ H R m i=>by
 obtain⟨C,f,fd,ps,ds,hm,hk,hb,hd,G⟩:=l.ex;cases hd;refine⟨_,zp8 hk G hr hg hm hb .nil lg yt b he hpl,?_⟩;refine h F σ H _ m λas vs H1 n t1 k1 j=>?_;have m1:=m.kz k1 t1;intro y dx hy hdx hne;rw[z45];refine lH m1 j n (λd v H' c g=>?_) y dx hy hdx hne;obtain⟨g1,g2,g3⟩:=g.back m k1;exact i d v H' c g1 (k1.trans g2) g3
end
structure zH3 (K:PySem.W.Frag)(x qual:Str)(st:Stmt)(dV:Value)(f:Addr)(fd:FuncData):Prop where
 ex:∃(oc:Value) (od:Option Addr) (kV doc pm:Value) (an:Option Addr) (cdv ct:Value) (osl:Array (Option Value)),
  fd=PySem.W.fnOf x qual (zL st) (zr st) (zd st) dV kV doc pm an cdv ct/\K.lookup f=some ⟨oc,od,.func fd,osl⟩/\PySem.W.codeIn K cdv qual=true
 kp:PySem.W.keepIn K (.ref f)=true
theorem zg6 {K:PySem.W.Frag}{x qual:Str}{st:Stmt}{f:Addr}{oc:Value}{od an:Option Addr}{osl:Array (Option Value)}{dV kV doc pm cdv ct:Value}(l:K.lookup f=some ⟨oc,od,.func (PySem.W.fnOf x qual (zL st) (zr st) (zd st) dV kV doc pm an cdv ct),osl⟩)
  (c:PySem.W.codeIn K cdv qual=true) (k:PySem.W.keepIn K (.ref f)=true):zH3 K x qual st dV f (PySem.W.fnOf x qual (zL st) (zr st) (zd st) dV kV doc pm an cdv ct):=⟨⟨oc,od,kV,doc,pm,an,cdv,ct,osl,rfl,l,c⟩,k⟩
section
variable {P:Program}{w:World}{K:PySem.W.Frag}{mg:Str->Option Value}{base:Heap}
theorem zN6 {qual:Str}{st:Stmt}{f C:Addr}{dV:Value}{fd:FuncData}{N:List Str}{x:Str}{k:Nat}{φ:List A->(A->Prop)->Prop}{fl:Str}{e:Expr}{p1 p2 p3:Pos}(G:zH3 K "__init__" qual st dV f fd)(S:zI ("self"::x::N) ["self",x] (zd st))(c:Cls K C)(na:yu K C fl)
  (hb:zr st=[.Assign [.Attribute (.Name "self" p1) fl p2] e p3]) (hlen:∀as Q,φ as Q->as.length=1)
  (O:∀(cdv:Value) (D:Around) (outer:List Env) (s:Shared) (H:Hp) (E:XK) (as:List A) (Q:A->Prop),zG k (D.deeper (envOfC qual (zd st) s.heap.objs.size f cdv))->φ as Q->
   EvL (xr CX0 P w K mg base ("self"::x::N) qual (zd st) f cdv D outer s H E).nox (none::as.map some++List.replicate N.length none) e λds=>wm ds=true/\Q (.dat (vb C [(.str fl,.list ds)])))
  (a8:∀(cdv:Value) (D:Around) (outer:List Env) (s:Shared) (H:Hp) (E:XK),swapsWith e (some (.Attribute (.Name "self" p1) fl p2)) p3.line (xr CX0 P w K mg base ("self"::x::N) qual (zd st) f cdv D outer s H E).nox.env=pure false)
  (hv:Vis (zd st) "self"):yv P w K mg base CX0 (k+1) f fd ["self",x] (spI C φ):=by
 obtain⟨oc,od,kV,doc,pm,an,cdv,ct,osl,rfl,lk,a5⟩:=G.ex;refine ia lk a5 S (λvs H Q E h=>?_) λD outer s H vs Qc E hr h=>?_
 ·obtain⟨F,as,Q',y,dx,vs',H1,rfl,_,_,_,_,_,_,_,Y,B,_⟩:=h;rw[z00,Y.length,hlen as _ B];rfl
 ·obtain⟨F,as,Q',y,dx,vs',H1,rfl,hy,hdx,hne,rfl,rfl,t,o,Y,B,kk⟩:=h;have hl:=Y.length;have a6:=hlen as _ B;rw[hb];refine⟨_,(show PSs _ _ _ from(tZ (pD (X:=(xr CX0 P w K mg base ("self"::x::N) qual (zd st) f cdv D outer s (upd (upd F.H0 dx (.own y)) y (.ins C dx [])) E).nox) (yB (i:=0) rfl hv) zf (a8 cdv D outer s _ E))).nox),?_⟩
  let F2:Fr:=⟨F.H0,λz=>F.O0 z\/z=y\/z=dx,F.tp⟩
  have s1:zu F.H0 (upd (upd F.H0 dx (.own y)) y (.ins C dx [])):=λa u q=>by rw[zc (zk q hy),zc (zk q hdx)];exact q
  have L:¬F.O0 y:=λz=>by obtain⟨u,p,_⟩:=o y z;rw[hy]at p;cases p
  have b0:¬F.O0 dx:=λz=>by obtain⟨u,p,_⟩:=o dx z;rw[hdx]at p;cases p
  have t2:zA F2 (upd (upd F.H0 dx (.own y)) y (.ins C dx [])):=(t.same s1).to rfl λ_ z=>.inl z
  -- the names of the body
  have g:∀{i:Nat} {a:A},(none::as.map some++List.replicate N.length none:Ev)[i]?=some (some a)->∃j,i=j+1/\as[j]?=some a:=λ{i a} h=>by
   cases i with
   |zero=>simp at h
   |succ j=>
    refine⟨j,rfl,?_⟩;have h':(as.map some++List.replicate N.length none:Ev)[j]?=some (some a):=by simpa using h
    rcases z96 j as.length with z|z
    ·rw[z22 (by rw[zX8];exact z),zY7,zZ3]at h';obtain⟨b,U,R⟩:=h';cases R;exact U
    ·rw[z38 (by rw[zX8];exact z),z61]at h';split at h'<;>cases h'
  have at':∀{vs:List V} {as:List A} {i:Nat} {a:A},zT F (sub (λx=>¬F.O0 x) F.H0) vs as->as[i]?=some a->∃v,vs[i]?=some v/\fG F (sub (λx=>¬F.O0 x) F.H0) v a:=by
   intro vs as i a h
   induction h generalizing i with
   |nil=>intro e;simp at e
   |cons h r ih=>
    intro e;cases i with
    |zero=>simp at e;subst e;exact⟨_,rfl,h⟩
    |succ i=>obtain⟨v,U,R⟩:=ih (by simpa using e);exact⟨v,by simpa using U,R⟩
  have gv:∀{j:Nat} {v:V},vs'[j]?=some v->(L2.start ("self"::x::N) (.ref y::vs'))[j+1]?=some (some v):=λ{j v} h=>by
   have hj:j<vs'.length:=(zY0.mp h).1;unfold L2.start;rw[z22 (by rw[zX8,z00];exact Nat.add_lt_add_right hj _),zY7,yf1,h];rfl
  have no:∀(i:Nat) a,(none::as.map some++List.replicate N.length none:Ev)[i]?=some (some a)->(∃d,a=.dat d)\/a=.tape:=λi a z=>by
   obtain⟨j,_,hj⟩:=g z;obtain⟨v,_,h⟩:=at' Y hj;cases a with
   |dat d=>exact .inl ⟨d,rfl⟩
   |tape=>exact .inr rfl
   |_=>exact h.elim
  have gs:zu (sub (λx=>¬F.O0 x) F.H0) (Gz F2 (none::as.map some++List.replicate N.length none) (L2.start ("self"::x::N) (.ref y::vs')) (upd (upd F.H0 dx (.own y)) y (.ins C dx []))):=λa u q=>by
   obtain⟨Z,J⟩:=zb q;refine zt ?_ (s1 _ _ J);rintro((z|z|z)|⟨i,b,s,e,_,f⟩)
   ·exact Z z
   ·rw[z,hy]at J;cases J
   ·rw[z,hdx]at J;cases J
   ·rcases no i b e with⟨d,rfl⟩|rfl
    ·exact f.elim
    ·exact f.elim
  have m2:M F2 (none::as.map some++List.replicate N.length none) (L2.start ("self"::x::N) (.ref y::vs')) (upd (upd F.H0 dx (.own y)) y (.ins C dx [])):=by
   refine⟨by unfold L2.start;simp[hl,a6],λi a s e1 e2=>?_,λi j a b s t x e1 _ _ _ f=>?_,λi r q z=>(by rcases no i _ z with⟨d,w⟩|w<;>cases w),t2,λz u h _=>s1 z u h,λz hz=>?_⟩
   ·obtain⟨j,rfl,hj⟩:=g e1;obtain⟨v,U,R⟩:=at' Y hj;rw[gv U]at e2;cases e2;rcases no _ a e1 with⟨d,rfl⟩|rfl
    ·exact⟨v,rfl,AV.same gs R⟩
    ·obtain⟨t',b,c,h3,rfl⟩:=R;exact⟨t',b,c,h3,rfl⟩
   ·rcases no i a e1 with⟨d,rfl⟩|rfl
    ·exact f.elim
    ·exact f.elim
   ·rcases hz with q|q|q
    ·obtain⟨u,p,hn⟩:=o z q;exact⟨u,s1 _ _ p,hn⟩
    ·exact⟨_,by rw[q];exact zh,λ_ q=>by cases q⟩
    ·exact⟨_,by rw[q,zc hne];exact zh,λ_ q=>by cases q⟩
  refine O cdv D outer s _ E as Q' hr B F2 _ _ _ m2 λd v H2 qd t3 k3 r3=>?_;obtain⟨l,xs,rfl,m,a9,a3⟩:=r3;obtain⟨a7,qd⟩:=qd;have a0:l≠y:=λz=>by rw[z,zh]at m;cases m
  have T:l≠dx:=λz=>by rw[z,zc hne,zh]at m;cases m
  have I:F.H0 l=none:=by rw[zc a0,zc T]at m;exact m
  have a2:¬F.O0 l:=λz=>by obtain⟨u,p,_⟩:=o l z;rw[I]at p;cases p
  have a4:NT F2 y:=t.nt L;have a1:H2 y=some (.ins C dx []):=k3 _ _ zh a4;refine⟨.ref y,rfl,y,C,dx,[],rfl,a1,c,na,by show 0<1000;decide,?_⟩;refine kk _ _ qd ⟨(t.re t3 rfl).updO L (gE a1),λz u h n=>?_,?_⟩
  ·rw[zc (zk h hy)];exact k3 _ _ (s1 _ _ h) n
  ·refine AV.ins (zt ⟨L,λxs z=>by rw[hy]at z;cases z⟩ zh) (.cons (.lst (zt ⟨a2,λxs z=>by rw[I]at z;cases z⟩ (by rw[zc a0];exact a9)) ?_) .nil);refine a3.noL (λa u hno z=>?_) a7;obtain⟨Z,J⟩:=zb z;have na:a≠y:=λw=>Z.1 (.inl (.inr (.inl w)));refine zt ⟨λw=>Z.1 (.inl (.inl w)),λxs w=>?_⟩ (by rw[zc na];exact J);have:H2 a=some (.lst xs):=k3 _ _ (s1 _ _ w) (t.nt λw=>Z.1 (.inl (.inl w)));rw[J]at this;cases this;exact hno trivial
end
section
variable {X:Cx}{α:Ev}{e e':Expr}{pos:Pos}{E:yi}{sts:List Stmt}
def uq {α:Type}(l:List α)(x:Int)(y:α):List α:=l.take (if x<0 then(x+(l.length:Int)).toNat else min x.toNat l.length)++y::l.drop (if x<0 then(x+(l.length:Int)).toNat else min x.toNat l.length)
theorem dF {α:Type}(l:List α)(x:Int)(y:α):(uq l x y).length=l.length+1:=by
 unfold uq;rw[z04,z00,z46,yc3];exact zV7
theorem Vals.ins {xs:List V}{us:List Value}{y:V}{u:Value}(r:Vals xs us)(a:RelV y u)(i:Int):Vals (uq xs i y) (uq us i u):=by
 unfold uq;rw[r.length];exact(r.take _).append (.cons a (r.drop _))
theorem AVs.ins {H:Hp}{xs:List V}{ds:List PyData}{y:V}{d:PyData}(r:AVs H xs ds)(a:AV H y d)(i:Int):AVs H (uq xs i y) (uq ds i d):=by
 unfold uq;rw[r.length];exact(r.take _).append (.cons a (r.drop _))
theorem zl8 (l:List Value)(k:Nat)(y:Value):(l.toArray.extract 0 k).push y++l.toArray.extract k=(l.take k++y::l.drop k).toArray:=by
 apply Array.toList_inj.mp;simp;exact yb2 (by simp)
def zl6 :V->List V->Hp->VK->Prop:=λx vs H Q=>∃l xs i y,x=.ref l/\vs=[.int i,y]/\H l=some (.lst xs)/\-(2 ^ 63)<=i/\i<2 ^ 63/\xs.length<sizeLine/\Q .non (upd H l (.lst (uq xs i y)))
theorem fe :MtM X "list.insert" zl6:=by
 intro pins s σ H x vs v us Q I k g h;obtain⟨l,xs,i,y,rfl,rfl,c,d,m,hz,q⟩:=h;cases k;obtain⟨u,a,rfl,f,b⟩:=g.two;obtain⟨t,rfl⟩:=f;obtain⟨z,its,n,r,j,e⟩:=I.lstM c;refine call_meets F.slot_list_insert ⟨_,e,rfl⟩ F.entry_list_insert (F.args_list_insert_3 _ _ _)
  (PySem.AutoSeq1.list_insert_list_int_val_1 l its.toArray n i t a (by
   have:=fitsIndex_both d m;simp[this]) (by rw[zZ5];exact z30 (zZ9 (zZ7 j.symm) hz))) ⟨e,?_⟩
 refine⟨.non,_,I.lset (its':=uq its i a) c e ?_ (r.ins b i) (by rw[dF];exact hz),rfl,q⟩;show(its.toArray.extract 0 (if i<0 then(i+(its.toArray.size:Int)).toNat else min i.toNat its.toArray.size)).push a++its.toArray.extract (if i<0 then(i+(its.toArray.size:Int)).toNat else min i.toNat its.toArray.size)=(uq its i a).toArray;rw[zl8,zZ5];rfl
theorem eG (i:Nat){x:Str}{ds:List PyData}{p1 p2 p3:Pos}(hi:α[i]?=some (some (.own ds)))(h:EvD X α e λk=>EvD X α e' λd=>∃j,k=.int j/\-(2 ^ 63)<=j/\j<2 ^ 63/\ds.length<1000/\SvS X (α.set i (some (.own (uq ds j d)))) sts E)
  (J:X.N[i]?=some x:=by rfl) (I:Vis X.env.scope x:=by first|exact Or.inl rfl|exact Or.inr (Or.inl rfl)|exact Or.inr (Or.inr rfl)) (hd:(x == ("__debug__":Str))=false:=by decide) (g:(x == ("__classdict__":Str))=false:=by decide)
  (b:attributeBase (.Name x p1) "insert" X.env (eval (.Name x p1) X.env)=eval (.Name x p1) X.env:=by rfl) (p:starEach [e,e'] X.env=(false,eval e X.env)::starEach [e'] X.env:=by rfl) (n:starEach [e'] X.env=(false,eval e' X.env)::starEach [] X.env:=by rfl)
  (hpl:((((backTo p3 (starEach [e,e'] X.env)).all λx=>!x.fst)&&(backToKw p3 (keywordEach [] X.env)).all λx=>x.fst.isSome)&&decide (([e,e'].length+([]:List Keyword).length+if([]:List Keyword).isEmpty=true then 0 else 1)<30))=true:=by rfl)
  (a:(p2.endLine == p3.line)=true:=by rfl) (c:(backTo p3 (starEach [e'] X.env)).any (·.1)=false:=by rfl) (f:swapsWith (.Call (.Attribute (.Name x p1) "insert" p2) [e,e'] [] p3) none pos.line X.env=pure false:=by rfl):SvS X α (.Expr (.Call (.Attribute (.Name x p1) "insert" p2) [e,e'] [] p3) pos::sts) E:=λF σ H D m r=>by
 obtain⟨l,xs,o,u,s,t,M⟩:=m.own i ds hi;refine⟨_,zv (pP (dO yf0 PySem.F.slot_list_insert PySem.F.type_list_insert fe (yB J I hd g) (zy zf (zy zf zW n) p) b hpl a p c) f) zB,?_⟩;refine⟨.ref l,o,.inl ⟨rfl,_,SqL.of u⟩,?_⟩;refine h F σ H _ m λk L H1 B t1 k1 z=>?_;have m1:=m.kz k1 t1;refine B F σ H1 _ m1 λd v K C t2 k2 w=>?_;have m2:=m1.kz k2 t2;obtain⟨j,rfl,G,A,y,q⟩:=C;cases z.int_inv;refine⟨l,xs,j,v,rfl,rfl,k2 _ _ (k1 _ _ u (m.tp.nt t)) (m.tp.nt t),G,A,by rw[s.length];exact yb (z30 y),?_⟩;exact q F σ _ D (m2.wrOwn hi o ((((s.same (k1.gz m.tp)).same (k2.gz m1.tp))).ins w j)) r
end
def Itv (K:PySem.W.Frag)(a:Addr)(n:Nat):It:=
 ⟨λi H=>∃xs x,SqL K H a xs/\xs.length=n/\i<n/\xs[n-1-i]?=some x,λi H x H'=>H'=H/\∀xs,SqL K H a xs->xs[n-1-i]?=some x,λi H=>n<=i⟩
theorem ao {P:Program}{w:World}{K:PySem.W.Frag}{tg:Expr}(a it:Addr)(n:Nat):Turn P w K tg (Itv K a n) [it] it (λi h=>i<=n/\h.IsRevIter it a ((n:Int)-1-(i:Int))) where
 mem:=by simp
 obj:=λi h st b hb=>by
  have e:b=it:=by simpa using hb
  subst e;obtain⟨_,o,e,c,d⟩:=st;exact⟨o,e,λv z=>by rw[d]at z;cases z⟩
 keep:=λi h h' st k=>⟨st.1,st.2.at λo e=>k it (by simp) o e⟩
 item:=by
  intro X m hw hK r i pins s σ H E I hf st hg;subst m hw hK;obtain⟨xs,x,hq,J,hi,q⟩:=hg;obtain⟨its,y,p,hz⟩:=I.list hq;obtain⟨u,F,t⟩:=y.get q;obtain⟨f0,f1,f2,j,f4,l⟩:=hf it (by simp);have e1:((n:Int)-1-(i:Int))=((n-1-i:Nat):Int):=by lia
  have f:=st.2;rw[e1]at f;refine wpAny_pyNext_rev_item f p.isList (x:=u) (by simpa using F) λh' g B=>?_;have D:Inv X pins σ H {s with heap:=h'}:=I.turned (t':=s.toks) (λb o hb e=>(B.2 b hb).trans e) f0 f1 j f4 l;obtain⟨o,e,c,d⟩:=id g;have C:(((n-1-i:Nat):Int)-1)=(n:Int)-1-((i+1:Nat):Int):=by lia
  rw[C]at g;exact⟨u,rfl,nF (s:={s with heap:=h'}) e c d (by decide) ⟨x,H,D,t,⟨rfl,λys hy=>by rw[I.list_inj hy hq];exact q⟩,⟨hi,g⟩,λb hb=>(hf b hb).1⟩⟩
 done:=by
  intro X m hw hK r i pins s σ H E I hf st hg;subst m hw hK;have hi:i=n:=z77 st.1 hg;obtain⟨f0,f1,f2,j,f4,l⟩:=hf it (by simp);have f:=st.2;rw[show((n:Int)-1-(i:Int))=-1 by lia]at f;exact wpAny_pyNext_rev_end (I.ok.hd r) f λh' G=>⟨rfl,I.turned (t':=s.toks) (λb o hb e=>G b o hb e) f0 f1 j f4 l⟩
 self:=λA i s Q E st h=>wpAny_pyIter_revIter st.2 h
section
variable {X:Cx}{α:Ev}{tg:Expr}{p pos:Pos}{a:Expr}
def zX1 (K:PySem.W.Frag)(b:TA):TI:=λσ H R=>b σ H λvs H1=>∃l xs,vs=[.ref l]/\SqL K H1 l xs/\R (Itv K l xs.length) H1
theorem zC9 {k:TA}(hg:Gl X "reversed")(hm:X.mg "reversed"=none)(ha:PA X [a] k)(m:starEach [a] X.env=[(false,eval a X.env)]:=by rfl):PI X tg (.Call (.Name "reversed" p) [a] [] pos) (zX1 X.K k):=by
 intro pins s σ H R I h;refine Call_ (yU I hg hm boot_reversed (z32 (thn (ha pos pins s σ H _ I h) λus s1 j=>?_) m rfl));obtain⟨vs,H1,f,n,t⟩:=j;obtain⟨l1,xs,e,i,q⟩:=t;subst e;obtain⟨u,rfl,l⟩:=Vals.one n;cases(show u=Value.ref l1 from l);obtain⟨c,g,p1,r⟩:=f.list i;have hlen:=g.length;refine call_reversed_list p1.isList ?_;have d:({s1 with heap:=s1.heap.push (revObj l1 ((c.toArray.size:Int)-1))}:Shared).heap.IsRevIter s1.heap.objs.size l1 ((xs.length:Int)-1-((0:Nat):Int)):=by
  refine⟨_,zZ0 _ rfl,rfl,?_⟩;show Data.fields _=_;rw[zZ5,hlen];simp
 refine wpAny_pyIter_revIter d ?_;refine⟨_,_,_,_,H1,rfl,f.kept (t':=s1.toks) λb o e=>zX7 _ e,ao l1 _ xs.length,⟨zZ6 _,d⟩,λb hb=>?_,q⟩;have e:b=s1.heap.objs.size:=by simpa using hb
 subst e;exact f.fpOk (zY3 _) (f.hok.fresh (zY3 _))
theorem zF9 {Q:List PyData->Prop}(hg:Gl X "reversed")(hm:X.mg "reversed"=none)(h:EvD X α a λx=>∃ds,x=.list ds/\Q ds.reverse)(e:starEach [a] X.env=[(false,eval a X.env)]:=by rfl):
  EvI X α tg (.Call (.Name "reversed" p) [a] [] pos) Q:=λF σ H R m k=>by
 refine⟨_,zC9 hg hm (zy zf zW e) e,?_⟩;refine h F σ H _ m λx n H1 j t1 k1 g=>?_;obtain⟨ds,rfl,q⟩:=j;obtain⟨l1,xs,rfl,g1,g2⟩:=g.lst_inv;refine⟨l1,xs,rfl,SqL.of (zb g1).2,k _ _ H1 q t1 k1 λi H3 p s=>⟨λd hd=>?_,λf=>?_⟩⟩
 ·have s1:=SqL.of (K:=X.K) (zb (s _ _ g1)).2;have hi:i<ds.length:=by
   have:=(zY0.mp hd).1
   rwa [z80]at this
  rw[List.getElem?_reverse hi]at hd;obtain⟨l,b,c⟩:=g2.get hd;rw[<-g2.length]at b;refine⟨⟨xs,l,s1,rfl,by rw[g2.length];exact hi,b⟩,λv o y=>?_⟩;obtain⟨rfl,hy⟩:=y;have:=hy _ s1;rw[b]at this;cases this;exact⟨zu.refl _,λ_=>c.same s⟩
 ·rw[z80,<-g2.length]at f;exact f
end
def EnS (w:World):List DictEntry->List (Str×V)->Prop:=Paired λe p=>e.hash=hashStr w p.1/\(∃t,e.key=.str p.1 t)/\RelV p.2 e.val
def jL (K:PySem.W.Frag)(w:World)(d:Addr)(b:List (Str×V)):Prop:=
 ∃a n,K.lookup d=some ⟨.type "dict",none,.dict a n,#[]⟩/\EnS w a.toList b/\(b.map (·.1)).Nodup
theorem fC {P:Program}{w:World}{a:List DictEntry}{b:List (Str×V)}(h:EnS w a b):Pairs (PySem.strKind P w) a (List.zipWith (λe (p:Str×V)=>(p.1,e.val)) a b):=by
 induction h with
 |nil=>exact .nil
 |cons q _ c=>
  obtain⟨_,⟨t,d⟩,_⟩:=q;exact .cons (by rw[d];simp[PySem.strKind,Value.isStrOf]) rfl c
theorem zp2 {w:World}{b:List DictEntry}{a:List (Str×V)}(h:EnS w b a):(List.zipWith (λe (p:Str×V)=>(p.1,e.val)) b a).map (·.1)=a.map (·.1):=by
 induction h with
 |nil=>rfl
 |cons _ _ c=>simp only[List.zipWith_cons_cons,z02,c]
theorem zb8 {P:Program}{w:World}{a:List DictEntry}{b:List (Str×V)}(h:EnS w a b):∀e∈a,∃k,(PySem.strKind P w).is k e.key=true/\e.hash=(PySem.strKind P w).hash k:=by
 induction h with
 |nil=>intro e he;simp at he
 |@cons _ p _ _ q _ ih=>
  obtain⟨c,⟨t,d⟩,_⟩:=q;intro e he;rcases zY2.mp he with rfl|he
  ·exact⟨p.1,by rw[d];simp[PySem.strKind,Value.isStrOf],c⟩
  ·exact ih e he
theorem zn0 {w:World}{x:Str}{v:V}{b:List DictEntry}{a:List (Str×V)}(d:EnS w b a)(h:a.lookup x=some v):∃u,valueAt (List.zipWith (λe (p:Str×V)=>(p.1,e.val)) b a) x=some u/\RelV v u:=by
 induction d with
 |nil=>simp at h
 |@cons e p _ _ k _ ih=>
  obtain⟨y,z⟩:=p;by_cases q:x=y
  ·subst q;simp only[List.lookup_cons_self,Option.some.injEq]at h;subst h;exact⟨e.val,by simp[valueAt],k.2.2⟩
  ·rw[z42,z79.mpr q]at h;obtain⟨u,c,f⟩:=ih h;refine⟨u,?_,f⟩;rw[<-c];simp[valueAt,z59,z23 q]
section
variable {X:Cx}{α:Ev}{p pos:Pos}{a:Expr}{g:Str}{Q:PyData->Prop}
def cp (i:Expr):Prop:=∀c b,subscripted i false c b=operate [c,b] (getItem c b)
theorem zL6 {prog:Program}{w:World}{A:Around}{E:Value->Shared->Prop}{s:Shared}{env:Env}{value slice:Expr}{pos:Pos}{T id:String}{Q:Value->Shared->Prop}
  (l:typeLookup (.type T) "__getitem__"=pure (some (.builtin id))) (k:cp slice)
  (h:wpAny (model prog w) A (eval value env) (λo d=>wpAny (model prog w) A (eval slice env) (λi b=>b.TypeIs o T/\wpAny (model prog w) A (getItem o i) Q E b) E d) E s):
  wpAny (model prog w) A (eval (.Subscript value slice pos) env) Q E s:=by
 refine Subscript_ (thn h λo d f=>thn f λi b c=>?_);obtain⟨hT,c⟩:=c;unfold subscriptTail;refine zX6 ?_;rw[getitemInPython_of_ne hT.not_modules];refine zX6 (yd7 hT l ?_);have fin:wpAny (model prog w) A (subscripted slice false o i) (λr e=>wpAny (model prog w) A (letTemporaryGo value o r >>= λ_=>pure r) Q E e) E b:=by
  rw[k o i];exact wpAny_operating (thn c λr e j=>zX6 (wpAny_letTemporaryGo (zY4 j)))
 first
  |exact zY4 (zX6 fin)
  |exact zX6 (zY4 (zX6 fin))
  |exact zX6 fin
theorem zb0 {d:Addr}{b:List (Str×V)}{ty:TE}(hg:Gl X g)(hm:X.mg g=some (.ref d))(hd:jL X.K X.w d b)(hi:PE X a ty)(l:cp a)(hb:(g == ("__debug__":Str))=false:=by decide):
  PE X (.Subscript (.Name g p) a pos) (λσ H Q=>ty σ H λy H1=>∃x v,y=.str x/\b.lookup x=some v/\Q v H1):=by
 intro pins s σ H Q I h;refine zL6 yd8.lookup l (xM I hg hm (thn (hi pins s σ H _ I h) λB s2 c=>?_) hb);obtain⟨y,r,j,q,x,v,o,ex,z⟩:=c;subst o;obtain⟨t,rfl⟩:=q;obtain⟨i,n,m,he,hn⟩:=hd;have dd:s2.heap.DictOf (PySem.strKind X.prog X.w) d (List.zipWith (λe (p:Str×V)=>(p.1,e.val)) i.toList b):=
  ⟨_,i,n,j.kIn _ _ m,⟨rfl,rfl,rfl⟩,rfl,λe f=>zb8 he e (by simpa using f),fC he,by rw[zp2 he];exact hn⟩
 obtain⟨u,k,A⟩:=zn0 he ex;exact⟨dd.typeIs,wpAny_getItem_of (show(PySem.strKind X.prog X.w).is x (.str x t)=true by simp[PySem.strKind,Value.isStrOf]) dd.mapOf k ⟨v,r,j.tok _,A,z⟩⟩
def scV :PyData->Option V
 |.none=>some .non
 |.bool b=>some (.bl b)
 |.int i=>some (.int i)
 |.str x=>some (.str x)
 |_=>Option.none
theorem dX {H:Hp}{d:PyData}{v:V}(h:scV d=some v):AV H v d:=by
 cases d<;>simp[scV]at h<;>subst h<;>constructor
theorem dw {d:Addr}{b:List (Str×V)}(hg:Gl X g)(hm:X.mg g=some (.ref d))(hd:jL X.K X.w d b)(h:EvD X α a λy=>∃x d v,y=.str x/\b.lookup x=some v/\scV d=some v/\Q d)(f:cp a:=by exact λ_ _=>rfl)
  (hb:(g == ("__debug__":Str))=false:=by decide):EvD X α (.Subscript (.Name g p) a pos) Q:=λF σ H R m k=>by
 refine⟨_,zb0 hg hm hd zf f hb,?_⟩;refine h F σ H _ m λy l H1 e t1 k1 j=>?_;obtain⟨x,d',v,rfl,c,i,q⟩:=e;cases j.str_inv;exact⟨x,v,rfl,c,k _ _ H1 q t1 k1 (dX i)⟩
end
section
variable {X:Cx}{α:Ev}{p pos:Pos}{a b:Expr}{g:Str}{Q:PyData->Prop}
def sD :List (PyData×PyData)->Str->Option PyData
 |[],_=>none
 |(.str y,d)::r,x=>if y=x then some d else sD r x
 |_::r,x=>sD r x
theorem zr3 (h0:Heap){v:V}{d:PyData}{u:Value}(h:scV d=some v)(f:PyProof.V.Flat u d):RelV v u:=by
 have r:=f h0;cases d with
 |none=>cases h;cases r;rfl
 |bool b=>cases h;cases r;rfl
 |int i=>cases h;cases r;exact⟨_,rfl⟩
 |str x=>cases h;cases r;exact⟨_,rfl⟩
 |_=>cases h
theorem gR (h0:Heap){x:Str}{d:PyData}{v:V}(j:scV d=some v){kvs:List (Str×Value)}{D:List (PyData×PyData)}(h:PyProof.V.FlatPairs PyData.str kvs D)(e:sD D x=some d):∃u,valueAt kvs x=some u/\RelV v u:=by
 induction h with
 |nil=>cases e
 |@cons k u d' kvs D f r ih=>
  unfold sD at e;by_cases q:k=x
  ·rw[if_pos q]at e;cases e;exact⟨u,by simp[valueAt,q],zr3 h0 j f⟩
  ·rw[if_neg q]at e;obtain⟨c,i,l⟩:=ih e;refine⟨c,?_,l⟩;rw[<-i];simp[valueAt,z59,q]
theorem dN {keys:List (Option Expr)}{values:List Expr}{D:List (PyData×PyData)}{ty:TE}(hD:litPairs keys values=some D)(C:strKeyed D=true)(V:(strKeysOf D).Nodup)(J:keys.all (·.isSome)=true)(P:keys.length=values.length)(R:keys≠[])(F:keys.length<=15)(hi:PE X a ty)(G:cp a):
  PE X (.Subscript (.Dict keys values p) a pos) (λσ H Q=>ty σ H λy H1=>∃x d v,y=.str x/\sD D x=some d/\scV d=some v/\Q v H1):=by
 intro pins s σ H Q I h;refine zL6 yd8.lookup G (Dict_lits_str hD C V J P R F λad o c tk hsz B tab kp=>?_);obtain⟨kvs,i,fl⟩:=tab;have n:Inv X pins σ H {s with heap:=c,toks:=tk}:=I.kept kp;have f:∀v,o.data≠.cell v:=λv z=>by
  obtain⟨m,A,_,e,_⟩:=i;rw[e]at z;cases z
 have l:Inv X ((ad,o)::pins) σ H {s with heap:=c,toks:=tk}:=n.pins_of λq hq=>by
  rcases zY2.mp hq with rfl|hq
  ·exact⟨B,I.hok.fresh hsz,λz=>absurd I.lt (by rw[<-z];exact Nat.not_lt.mpr hsz),I.nofs hsz,f⟩
  ·exact n.pin q (by first|exact hq|exact z25 _ hq|exact z52 _ hq)
 refine thn (hi _ _ σ H _ l h) λW s2 k=>?_;obtain⟨y,r,j,N,x,d,v,K,ex,U,S⟩:=k;subst K;obtain⟨t,rfl⟩:=N;have E:=j.pin (ad,o) (by first|exact zY9|exact z25 _ zY9|exact z52 _ zY9);obtain⟨m,A,a1,a2,T,O,L⟩:=i;have dd:s2.heap.DictOf (PySem.strKind X.prog X.w) ad kvs:=⟨o,m,A,E.1,a1,a2,T,O,L⟩;obtain⟨u,g1,g2⟩:=gR s.heap U fl ex;have M:Inv X pins σ r s2:=j.pins_of λq hq=>j.pin q (by rcases z05.mp (z25 X.pn hq)with z|z;exact z52 _ z;exact z25 _ (zY5 _ z));exact⟨dd.typeIs,wpAny_getItem_of (show(PySem.strKind X.prog X.w).is x (.str x t)=true by simp[PySem.strKind,Value.isStrOf]) dd.mapOf g1 ⟨v,r,M.tok _,g2,S⟩⟩
theorem bJ {keys:List (Option Expr)}{values:List Expr}{D:List (PyData×PyData)}(hD:litPairs keys values=some D)(c:strKeyed D=true)(n:(strKeysOf D).Nodup)(h:EvD X α a λy=>∃x d v,y=.str x/\sD D x=some d/\scV d=some v/\Q d)
  (l:keys.all (·.isSome)=true:=by rfl) (e:keys.length=values.length:=by rfl) (o:keys≠[]:=by exact List.cons_ne_nil _ _) (i:keys.length<=15:=by decide) (j:cp a:=by exact λ_ _=>rfl):EvD X α (.Subscript (.Dict keys values p) a pos) Q:=λF σ H R m k=>by
 refine⟨_,dN hD c n l e o i zf j,?_⟩;refine h F σ H _ m λy s H1 f t1 k1 r=>?_;obtain⟨x,d,v,rfl,g1,g2,q⟩:=f;cases r.str_inv;exact⟨x,d,v,rfl,g1,g2,k _ _ H1 q t1 k1 (dX g2)⟩
def vd :PyData->Bool
 |.none=>true
 |.bool _=>true
 |.int _=>true
 |.str _=>true
 |_=>false
theorem oQ {H:Hp}{v:V}{d:PyData}(h:AV H v d)(f:vd d=true):vQ v=true/\scV d=some v:=by
 cases h<;>first|exact⟨rfl,rfl⟩|cases f
theorem mw {H:Hp}{xs:List V}{ds:List PyData}(h:AVs H xs ds)(f:ds.all vd=true):xs.all vQ=true/\ds.map scV=xs.map some:=by
 induction h using AVs.ind with
 |nil=>exact⟨rfl,rfl⟩
 |cons h _ c=>
  rw[yi5,z07]at f;obtain⟨e,i⟩:=oQ h f.1;obtain⟨d,j⟩:=c f.2;exact⟨by rw[yi5,e,d];rfl,by rw[z02,z02,i,j]⟩
def inD (x:PyData)(ds:List PyData):Bool:=ds.any λy=>match scV y,scV x with
 |some u,some v=>eqV u v
 |_,_=>false
theorem oF {v:V}{x:PyData}(f:scV x=some v):∀{xs:List V}{ds:List PyData},ds.map scV=xs.map some->inV v xs=inD x ds
 |[],[],_=>rfl
 |[],_::_,e=>by cases e
 |_::_,[],e=>by cases e
 |u::xs,d::ds,e=>by
  rw[z02,z02]at e;injection e with e1 h;have c:=oF f h;unfold inV inD at c ⊢;rw[z84,z84,c,e1,f]
theorem dW {neg:Bool}{x:PyData}{ds:List PyData}(d:vd x=true)(fs:ds.all vd=true):Cmp (rIn X.K neg) x (.list ds) (if neg then !inD x ds else inD x ds):=λp H i f R e c h=>by
 obtain⟨ad,xs,rfl,g1,g2⟩:=c.lst_inv;obtain⟨f1,s1⟩:=oQ e d;obtain⟨f2,s2⟩:=mw g2 fs;refine⟨ad,xs,rfl,.inl (SqL.of (zb g1).2),f1,f2,?_⟩;rw[oF s1 s2];exact h
theorem iq {neg:Bool}{x:PyData}{ds:List PyData}(d:vd x=true)(fs:ds.all vd=true):Cmp (rIn X.K neg) x (.tuple ds) (if neg then !inD x ds else inD x ds):=λp H i f R e c h=>by
 obtain⟨ad,xs,rfl,g1,g2⟩:=c.tup_inv;obtain⟨f1,s1⟩:=oQ e d;obtain⟨f2,s2⟩:=mw g2 fs;refine⟨ad,xs,rfl,.inr (SqT.of (zb g1).2),f1,f2,?_⟩;rw[oF s1 s2];exact h
end
section
variable {X:Cx}{α:Ev}{p pos:Pos}{a b:Expr}{Q:PyData->Prop}
end
section
variable {X:Cx}{α:Ev}{a e:Expr}{pos p2 p3 p4:Pos}{n1:Nat}{te:TE}
end
def cQ (T:Addr)(H:Hp):Prop:=∀b:Addr,H b=none\/b=T\/∃o xs,H b=some (.frz o (.lst xs))
theorem gS {P:Program}{w:World}{K:PySem.W.Frag}{mg mb:Str->Option Value}{CX:CXT}{k:Nat}{Y a T:Addr}{fd:FuncData}{x:Str}{sp:Sp}{c:Shared}{vs:List Value}{ns:List Int}{ps:Array Value}
  (KX:K.In c.heap) (t:c.heap.Ns mainGlobals mg) (hb:c.heap.Ns builtinsNs mb) (U:∀x:Str,x≠"__name__"->mb x=bootBuiltins x) (D:c.heap.NoLimit) (hg:c.gens=#[])
  (ha:c.heap.get? a=some {cls:=.type "list",data:=.seq vs.toArray}) (hi:IntsAre vs ns) (hl:ns.length<=sizeLine) (hr:zG k callerA)
  (hT:c.heap.get? T=some (PySem.W.tabObj ps)) (S:K.lookup T=none) (Z:isCodeTable c.heap T)
  (O:∃bm ob,mg "__builtins__"=some (.ref bm)/\bm≠builtinsNs/\c.heap.get? bm=some ob/\ob.cls=.type "module"/\ob.dict=some builtinsNs/\ob.data=.plain)
  (F:∀base:Heap,K.In base->base.Ns mainGlobals mg->base.BuiltinsAt mg T->yv P w K mg base CX k Y fd [x] sp) (y:∀(s:Shared) (u:Value),BindsTo s fd ⟨[u],[]⟩ [(x,u)])
  (M:∀H:Hp,cQ T H->H T=some (.tbl ps)->SqL K H a (ns.map V.int)->sp [.ref a] H (λv _=>v=.bl true) λ_ _ _=>False)
  (R:∀H e s',CX [] H c (λ_ _ _=>False) e s'->False):
  codeAny (model P w) callerA (.call (.ref Y) ⟨[.ref a],[]⟩) (λr s'=>r=.ok (.ret (.bool true))/\OldK c.heap s'.heap/\s'.os=c.os/\AllBare s'.gens) c:=by
 have rv:=fZ hi;have I:=hi.length;have E:a≠T:=λz=>by rw[z,hT]at ha;cases ha
 have core:∀H:Hp,cQ T H->H T=some (.tbl ps)->SqL K H a (ns.map V.int)->HOk P w H c.heap->(∀b,H b≠none->b=a\/b=T)->(H a≠none->K.lookup a=none)->
   codeAny (model P w) callerA (.call (.ref Y) ⟨[.ref a],[]⟩) (λr s'=>r=.ok (.ret (.bool true))/\OldK c.heap s'.heap/\s'.os=c.os/\AllBare s'.gens) c:=by
  intro H hO G hS hok L hK;have f:∀{b:Addr} {o:Obj},c.heap.get? b=some o->H b=none->(qo c.heap H).get? b=some o:=λe n=>dJ e n;have a0:∀{b:Addr} {o:Obj} {p:Array DictEntry} {B:Nat},c.heap.get? b=some o->o.data=.dict p B->H b=none:=λ{b o p B} e d=>by
   cases q:H b with
   |none=>rfl
   |some u=>
    rcases L b (by rw[q];simp)with g|g
    ·subst g;rw[ha]at e;cases e;have d':Data.seq vs.toArray _=Data.dict p B:=d;cases d'
    ·subst g;rw[hT]at e;cases e;have d':Data.fields ps=Data.dict p B:=d;cases d'
  have j:∀{b:Addr} {m:Str->Option Value},c.heap.Ns b m->(qo c.heap H).Ns b m:=λ{b m} X=>by obtain⟨o,p,B,e,d,r⟩:=X;exact⟨o,p,B,f e (a0 e d),d,r⟩
  have C:K.In (qo c.heap H):=λb o e=>f (KX b o e) (by
   cases q:H b with
   |none=>rfl
   |some u=>
    rcases L b (by rw[q];simp)with g|g
    ·subst g;rw[hK (by rw[q];simp)]at e;cases e
    ·subst g;rw[S]at e;cases e)
  have hM:Mod K mg (qo c.heap H):=⟨C,j t,⟨mb,j hb,U⟩,let⟨mc,h1,h2⟩:=D;⟨mc,j h1,h2⟩⟩;have Q:(qo c.heap H).BuiltinsAt mg T:=by
   obtain⟨bm,ob,b1,b2,A,b4,b5,J⟩:=O;have n1:bm≠T:=λz=>by rw[z,hT]at A;cases A;cases b4
   have n2:bm≠a:=λz=>by rw[z,ha]at A;cases A;cases J
   have n3:bm≠mainGlobals:=λz=>by
    obtain⟨o,p,B,e,d,_⟩:=t;rw[z,e]at A;cases A;rw[d]at J;cases J
   exact⟨bm,ob,b1,b2,n3,n1,f A (by
    cases q:H bm with
    |none=>rfl
    |some u=>
          rcases L bm (by rw[q];simp)with g|g
          ·exact absurd g n2
          ·exact absurd g n1),b4,b5,J⟩
  have e0:uS P w K mg (qo c.heap H) callerA [] c H:=⟨rfl,hM,λb o e=>zn1 e,zZ7 (hG _ _),trivial,λb hb=>absurd (show b∈([]:List Addr)from hb) (by simp),hok,.of_eq hg⟩;refine yb5 ((F _ C (j t) Q).run callerA [] c H ⟨[.ref a],[]⟩ [.ref a] [.ref a] _ _ hr e0 (y c (.ref a)) (.cons rfl .nil) (M H hO G hS)) λr s' h=>?_;cases r with
  |error e=>exact(R H e s' h).elim
  |ok fl=>
   cases fl with
   |next=>exact False.elim h
   |brk=>exact False.elim h
   |cont=>exact False.elim h
   |ret u=>
    obtain⟨v,H',os,bare,un,l,r',q⟩:=h;have q':v=.bl true:=q;subst q';obtain rfl:u=Value.bool true:=r';have old:∀b o,c.heap.get? b=some o->asItWas c.heap s'.heap b o:=λb o e=>by
     cases q:H b with
     |none=>exact .inl (un.keep b o e q (by intro z;exact absurd (show b∈([]:List Addr)from z) (by simp)) (by simp))
     |some u=>
      rcases hO b with z|z|⟨ob,xs,z⟩
      ·rw[q]at z;cases z
      ·subst z;obtain⟨more,hm⟩:=un.tbls _ _ G;have N:s'.heap.get? b=some {cls:=.none,data:=.fields (ps++more)}:=l _ _ hm;rw[hT]at e;cases e;exact .inr (.inl ⟨Z,rfl,ps,more,rfl,N⟩)
      ·have z2:=un.frzs b ob _ z;obtain⟨e1,_⟩:=hok b _ z;obtain⟨N,_⟩:=l b _ z2;rw[e]at e1;cases e1;exact .inl N
    refine⟨rfl,⟨old,λb o e=>?_⟩,os,bare⟩;rcases old b o e with z|⟨_,_,_,_,_,z⟩|⟨_,_,⟨o',_,_,z,_⟩,_⟩
    ·exact⟨_,z⟩
    ·exact⟨_,z⟩
    ·exact⟨_,z⟩
 cases hk:K.lookup a with
 |some o=>
  have e:=KX a o hk;rw[ha]at e;cases e;refine core (λb=>if b=T then some (.tbl ps)else none) (λb=>?_) (if_pos rfl) (.inr ⟨_,vs.toArray,_,hk,rfl,rfl,rfl,by rw[zZ5,I];exact hl,by simpa using rv⟩) (λb u z=>?_) (λb z=>?_) λz=>absurd (if_neg E) z
  ·by_cases h:b=T
   ·exact .inr (.inl h)
   ·exact .inl (if_neg h)
  ·by_cases h:b=T
   ·have i:=(if_pos h).symm.trans z;cases i;subst h;exact hT
   ·have i:=(if_neg h).symm.trans z;cases i
  ·by_cases h:b=T
   ·exact .inr h
   ·exact absurd (if_neg h) z
 |none=>
  refine core (λb=>if b=T then some (.tbl ps)else if b=a then some (.frz {cls:=.type "list",data:=.seq vs.toArray} (.lst (ns.map V.int)))else none) (λb=>?_) (if_pos rfl) (.inl (.inr ⟨{cls:=.type "list",data:=.seq vs.toArray},(if_neg E).trans (if_pos rfl)⟩)) (λb u z=>?_) (λb z=>?_) λ_=>hk
  ·by_cases h:b=T
   ·exact .inr (.inl h)
   ·by_cases hb:b=a
    ·exact .inr (.inr ⟨_,_,(if_neg h).trans (if_pos hb)⟩)
    ·exact .inl ((if_neg h).trans (if_neg hb))
  ·by_cases h:b=T
   ·have i:=(if_pos h).symm.trans z;cases i;subst h;exact hT
   ·have z:=(if_neg h).symm.trans z;by_cases hb:b=a
    ·have i:=(if_pos hb).symm.trans z;cases i;subst hb;exact⟨ha,by rw[zX8];exact hl,vs,_,rv,ha⟩
    ·have i:=(if_neg hb).symm.trans z;cases i
  ·by_cases h:b=T
   ·exact .inr h
   ·by_cases hb:b=a
    ·exact .inl hb
    ·exact absurd ((if_neg h).trans (if_neg hb)) z
theorem cM {l:PySem.W.OpenLaw}{n k:Nat}{q:Program}{loose:List Str}{I:(Str->Option Value)->Heap->Prop}{C:World->Heap->Prop}{d:DefRec}{K:Params->PySem.W.Frag}{CX:World->CXT}{sp:World->Sp}{x:Str}{T c:Addr}{ps:Array Value}
  (hn:l.most=some n) (D:n<=sizeLine) (hdf:d.params.defaults=[]) (hr:zG k callerA)
  (O:∀(w:World) (h:Heap),C w h->(K w.params).In h) (z:∀(w:World) (h:Heap),C w h->h.get? T=some (PySem.W.tabObj ps))
  (A:∀w:World,(K w.params).lookup T=none) (m:∀w:World,∃o vs,(K w.params).lookup c=some o/\o.cls=.type "code"/\o.data=.fields vs/\vs[11]?=some (.ref T))
  (F:∀(w:World) (mg:Str->Option Value) (p:Addr) (h:Heap),(K w.params).In h->h.Ns mainGlobals mg->mg d.name=some (.ref p)->
   ∃fd:FuncData,(∀(s:Shared) (u:Value),BindsTo s fd ⟨[u],[]⟩ [(x,u)])/\
    ∀base:Heap,(K w.params).In base->base.Ns mainGlobals mg->base.BuiltinsAt mg T->yv l.prog w (K w.params) mg base (CX w) k p fd [x] (sp w))
  (y:∀(w:World) (H:Hp) (a:Addr) (ns:List Int),ns.length<=n->cQ T H->H T=some (.tbl ps)->SqL (K w.params) H a (ns.map V.int)->sp w [.ref a] H (λv _=>v=.bl true) λ_ _ _=>False)
  (B:∀(w:World) (H:Hp) (s:Shared) (e:Value) (s':Shared),CX w [] H s (λ_ _ _=>False) e s'->False):
  PySem.W.WalkO q loose I C l.row.toRowW d [] (λf vs=>PySem.call f vs):=by
 refine Att.attach_call hn hdf λw s₀ j mg mb p o pm cd doc a vs ns G Y P hd L t i hints hlen hg=>?_;have r:=O w _ Y;obtain⟨oc,cv,t2,t3,N,M⟩:=m w;obtain⟨fd,hb,hF⟩:=F w mg p _ r G.T.g t;exact gS r G.T.g G.T.b G.T.builtins G.T.nolimit hg i hints (zY8 hlen D) hr (z w _ Y) (A w) ⟨c,oc,cv,r _ _ t2,t3,N,M⟩ G.T.bmain hF hb (λH E hT J=>y w H a ns hlen E hT J) λH e s'=>B w H j e s'
theorem TabAt.same {H H':Hp}(T:TabAt H)(h:∀a o,(∀xs,o≠.lst xs)->H a=some o->H' a=some o):TabAt H':=rP T h
section
variable {X:Cx}{pins:List (Addr×Obj)}{σ:St}{H:Hp}{s:Shared}{h':Heap}
theorem Inv.tblMore {t':Nat}{p:Addr}{ps more:Array Value}{H':Hp}(I:Inv X pins σ H s)(h:H p=some (.tbl ps))(k:∀b u,b≠p->s.heap.get? b=some u->h'.get? b=some u)(e:h'.get? p=some (PySem.W.tabObj (ps++more)))
  (g:H' p=some (.tbl (ps++more))) (a:∀b,b≠p->b<s.heap.objs.size->H' b=H b) (new:∀b o,s.heap.objs.size<=b->H' b=some o->zD X.prog X.w H' h' b o):
  Inv X pins σ H' {s with heap:=h',toks:=t'}:=by
 have ne:∀b,H b=none->b≠p:=λb n z=>by rw[z,h]at n;cases n
 have nt:∀b o,H b=some o->(∀f,o≠.tbl f)->b≠p:=λb o q n z=>by rw[z,h]at q;cases q;exact n _ rfl
 have lt:∀b o,H b=some o->b<s.heap.objs.size:=λb o q=>by
  rcases z96 b s.heap.objs.size with z|z
  ·exact z
  ·rw[I.hok.fresh z]at q;cases q
 have st:∀b o,H b=some o->(∀f,o≠.tbl f)->H' b=some o:=λb o q n=>by rw[a b (nt b o q n) (lt b o q)];exact q
 refine I.un ⟨λb o q n _ _=>k b o (ne b n) q,λb o q n _ _=>⟨o.slots,k b o (ne b n) q⟩,λb o q n _=>by rw[a b (ne b n) (zY6 q)];exact n,λb o q _=>?_,λb xs q=>st b _ q (λ_ z=>by cases z),λb o u q=>st b _ q (λ_ z=>by cases z),λb f q=>?_⟩ λb u q=>?_
 ·by_cases z:b=p
  ·exact⟨_,by rw[z];exact e⟩
  ·exact⟨o,k b o z q⟩
 ·by_cases z:b=p
  ·subst z;rw[h]at q;cases q;exact⟨more,g⟩
  ·exact⟨#[],by rw[a b z (lt b _ q),q];simp⟩
 ·by_cases z:b=p
  ·subst z;rw[g]at q;cases q;exact e
  ·rcases z96 b s.heap.objs.size with l|l
   ·rw[a b z l]at q;refine(I.hok b u q).stay (λc v d r=>k c v (λw=>?_) r) (λc r=>st c _ r λ_ z=>by cases z) λc xs r=>st c _ r λ_ z=>by cases z
    subst w;rcases d with rfl|d
    ·exact z rfl
    ·rw[h]at d;cases d
   ·exact new b u l q
def ku (f c:Addr)(qual:Str)(params:Arguments)(body:Expr)(scope:Scope)(a:List (Str×Addr)):HO:=
 .ext λh=>∃(pm ctv:Value),h.get? f=some (PySem.W.kla_obj "<lambda>" qual params body scope a pm c ctv)
theorem zl3 {P:Program}{w:World}{H:Hp}{h:Heap}{c:Addr}(r:h.CodeRec (.ref c) xG):zD P w H h c (tI c):=by
 refine⟨r,?_,λd e p k=>?_⟩
 ·obtain⟨c',o,vs,t,e1,a,_⟩:=r;cases e1;exact⟨o,a⟩
 ·obtain⟨c',o,vs,t,e1,a,b⟩:=p;cases e1;exact⟨c,o,vs,t,rfl,k _ a,b⟩
theorem zc1 {P:Program}{w:World}{H:Hp}{h:Heap}{f c:Addr}{qual:Str}{params:Arguments}{body:Expr}{scope:Scope}{a:List (Str×Addr)}{pm ctv:Value}(r:h.get? f=some (PySem.W.kla_obj "<lambda>" qual params body scope a pm c ctv)):zD P w H h f (ku f c qual params body scope a):=
 ⟨⟨pm,ctv,r⟩,⟨_,r⟩,λg i d k=>by obtain⟨e,b,p⟩:=d;exact⟨e,b,k _ p⟩⟩
theorem jm {pos:Pos}{a b:Int}{c cv:Value}(l:List Value):TriplesOk l->codeAmong pos (l++[rawInt a,rawInt b,c])=some cv->codeAmong pos l=some cv\/cv=c:=by
 induction l using TriplesOk.induct with
 |case1=>
  intro _ h;rw[z29,rawInt,rawInt,codeAmong.eq_1]at h;split at h
  ·cases h;exact .inr rfl
  ·rw[codeAmong.eq_2 _ _ (by intro _ _ _ _ _ _ z;cases z)]at h;cases h
 |case2 i t j u d rest f=>
  intro ok h;rw[TriplesOk.eq_2]at ok;rw[yc7,yc7,yc7,codeAmong.eq_1]at h;rw[codeAmong.eq_1];split at h
  ·rename_i z;rw[if_pos z];exact .inl h
  ·rename_i z;rw[if_neg z];exact f ok h
 |case3 t e g=>
  intro ok;rw[TriplesOk.eq_3 t e g]at ok;exact ok.elim
theorem zb1 {params:Arguments}{body:Expr}{scope:Scope}{g:Pos}{i:List (Str×Addr)}{c:Addr}(I:Inv X pins σ H s)(hcl:closureFor scope X.env=pure i)(hgl:X.env.globals=mainGlobals)(hco:X.env.code=.ref c)(hhd:PySem.W.CodeHd X.base c yk)
  (hbi:X.base.BuiltinsAt X.mg yk) (hdf:defaultsOf params X.env=([],[])) (hq:X.env.qual++("<lambda>":Str)=xG) (hne:mainGlobals≠yk) (T:TabAt H) {Q:Value->Shared->Prop}
  (h:∀(f c':Addr) (H':Hp) (s':Shared),Inv X pins σ H' s'->TabAt H'->(∀a o,a≠yk->H a=some o->H' a=some o)->(∀a ps,H a=some (.tbl ps)->∃y,H' a=some (.tbl y))->H f=none->H' f=some (ku f c' xG params body scope i)->H' c'=some (tI c')->Q (.ref f) s'):
  wpAny (model X.prog X.w) X.A (eval (.Lambda params body scope g) X.env) Q X.xe s:=by
 refine PySem.W.kla_eval hdf ?_;rw[hq];obtain⟨ps,t1,t2,t3⟩:=T.ex;have hT:s.heap.get? yk=some (PySem.W.tabObj ps):=I.hok _ _ t1;have hb:∀b o,X.base.get? b=some o->s.heap.get? b=some o:=λb o e=>(I.bs b o e).1;have n:PySem.W.CodeHd s.heap c yk:=by
  obtain⟨o,vs,f1,f2,N,f4,O,V,f7,e1,j⟩:=hhd;exact⟨o,vs,f1,f2,N,f4,O,V,f7,hb _ _ e1,j⟩
 have p:s.heap.BuiltinsAt X.mg yk:=by
  obtain⟨bm,o,e1,j,E,Y,U,e6⟩:=hbi;exact⟨bm,o,e1,j,E,Y,hb _ _ U,e6⟩
 have v:s.heap.Ns mainGlobals X.mg:=by
  obtain⟨o,R,ep,e,d,r⟩:=I.ok.mod.glob;exact⟨o,R,ep,hb _ _ e,d,r⟩
 cases hc:codeAmong g ps.toList with
 |none=>
  refine PySem.W.kla_makeFunction hcl hgl v hco n hT t2 hc hne p λc' ctv h' tk ex l1 l2 cr ht=>?_;have a0:c'<(h'.push (PySem.W.kla_obj "<lambda>" xG params body scope i ((X.mg "__name__").getD Value.none) c' ctv)).objs.size:=by rw[size_push'];exact zX9 l2 (zZ4 _ _)
  have n1:(c':Addr)≠h'.objs.size:=z01 l2;have q:yk<s.heap.objs.size:=zY6 hT;have P:(c':Addr)≠yk:=z70 (zX9 q l1);have lf:s.heap.objs.size<=h'.objs.size:=z30 (zZ9 l1 l2);have S:(h'.objs.size:Addr)≠yk:=z70 (zX9 q lf)
  let m:Hp:=upd (upd (upd H h'.objs.size (ku h'.objs.size c' xG params body scope i)) c' (tI c')) yk (.tbl (ps++#[rawInt ↑g.line,rawInt ↑g.col,Value.ref c']))
  have D:m yk=some (.tbl (ps++#[rawInt ↑g.line,rawInt ↑g.col,Value.ref c'])):=zh;have eC:m c'=some (tI c'):=by show upd _ _ _ _=_;rw[zc P,zh]
  have J:m h'.objs.size=some (ku h'.objs.size c' xG params body scope i):=by show upd _ _ _ _=_;rw[zc S,zc n1.symm,zh]
  have old:∀b,b≠yk->b<s.heap.objs.size->m b=H b:=λb nb B=>by
   show upd _ _ _ _=_;rw[zc nb,zc (z01 (zX9 B l1)),zc (z01 (zX9 B lf))]
  have C:Inv X pins σ m {s with heap:=h'.push (PySem.W.kla_obj "<lambda>" xG params body scope i ((X.mg "__name__").getD Value.none) c' ctv),toks:=tk}:=by
   refine I.tblMore (more:=#[rawInt ↑g.line,rawInt ↑g.col,Value.ref c']) t1 (λb u nb e=>zX7 _ (ex b u nb e)) (zX7 _ ht) D old λb o B e=>?_;by_cases G:b=h'.objs.size
   ·subst G;rw[J]at e;cases e;exact zc1 (zZ0 _ rfl)
   ·by_cases L:b=c'
    ·subst L;rw[eC]at e;cases e;obtain⟨M,o,vs,t,e1,j,E⟩:=cr;cases e1;exact zl3 ⟨_,o,vs,t,rfl,zX7 _ j,E⟩
    ·have nb:b≠yk:=λz=>absurd B (Nat.not_le_of_lt (z▸q));have e':m b=H b:=by show upd _ _ _ _=_;rw[zc nb,zc L,zc G]
     rw[e',I.hok.fresh B]at e;cases e
  have stay:∀a o,a≠yk->H a=some o->m a=some o:=λa o no e=>by
   have Z:a<s.heap.objs.size:=by
    rcases z96 a s.heap.objs.size with z|z
    ·exact z
    ·rw[I.hok.fresh z]at e;cases e
   rw[old a no Z];exact e
  refine h _ c' m _ C ⟨_,D,?_,λpos cv x=>?_⟩ stay (λa y e=>?_) (I.hok.fresh lf) J eC
  ·rw[Array.toList_append];exact TriplesOk_snoc _ _ _ _ t2
  ·rw[Array.toList_append]at x;rcases jm _ t2 x with z|z
   ·obtain⟨M,rfl,j⟩:=t3 _ _ z;exact⟨M,rfl,stay _ _ (λz=>by rw[z,t1]at j;cases j) j⟩
   ·exact⟨c',z,eC⟩
  ·by_cases F:a=yk
   ·exact⟨_,by rw[F];exact D⟩
   ·refine⟨y,?_⟩;rw[old a F (by
     rcases z96 a s.heap.objs.size with z|z
     ·exact z
     ·rw[I.hok.fresh z]at e;cases e)]
    exact e
 |some cv=>
  obtain⟨c',rfl,K⟩:=t3 _ _ hc;refine PySem.W.kla_makeFunctionHit hcl hgl v hco n hT t2 hc p λctv h' tk k l=>?_;have hf:H h'.objs.size=none:=I.hok.fresh l;have k2:∀b u,s.heap.get? b=some u->(h'.push (PySem.W.kla_obj "<lambda>" xG params body scope i ((X.mg "__name__").getD Value.none) c' ctv)).get? b=some u:=λb u e=>zX7 _ (k b u e);have C:=I.laid (t':=tk) (o:=ku h'.objs.size c' xG params body scope i) k2 l (zc1 (zZ0 _ rfl));have n1:∀a o,H a=some o->a≠h'.objs.size:=λa o e z=>by rw[z,hf]at e;cases e
  refine h _ c' _ _ C (T.same λa o _ e=>by rw[zc (n1 a o e)];exact e) (λa o _ e=>by rw[zc (n1 a o e)];exact e) (λa y e=>⟨y,by rw[zc (n1 a _ e)];exact e⟩) hf zh ?_;rw[zc (n1 _ _ K)];exact K
end
structure wj (x y:Str)(params:Arguments)(scope:Scope):Prop where
 kind:scope.kind=.function
 co:scope.isCoroutine=false
 gen:scope.isGenerator=false
 px:scope.names.lookup x=some .local
 py:scope.names.lookup y=some .free
 nocell:∀z∈scope.names,z.2≠NameKind.cell
 only:∀z∈scope.names,z.2=NameKind.free->z.1=y
 ne:x≠y
def nq (P:Program)(w:World)(K:PySem.W.Frag)(mg:Str->Option Value)(base:Heap)(x y:Str)(scope:Scope)(f c cl:Addr)(A:Around)(outer:List Env)(s:Shared)(H:Hp):Cx where
 prog:=P
 w:=w
 K:=K
 mg:=mg
 base:=base
 A:=A.deeper (PySem.W.envX xG scope s.heap.objs.size f (.ref c) [(y,cl)])
 N:=[x,y]
 s₀:=s
 H₀:=H
 env:=PySem.W.envX xG scope s.heap.objs.size f (.ref c) [(y,cl)]
 outer:=outer
 stack:=PySem.W.envX xG scope s.heap.objs.size f (.ref c) [(y,cl)]::outer
 ex:=[]
 calm:=true
 fn:=λ_=>false
 pn:=[]
 xe:=λ_ _=>False
theorem fw {P:Program}{w:World}{K:PySem.W.Frag}{mg:Str->Option Value}{base:Heap}{x y:Str}{params:Arguments}{scope:Scope}{f c cl:Addr}{A:Around}{outer:List Env}{s:Shared}{H:Hp}{h':Heap}{tk:Nat}{v l:V}{u ul:Value}
  (S:wj x y params scope) (hd:A.handled=none) (m:uS P w K mg base A outer s H) (B:RelV v u) (D:RelV l ul) (hcl:s.heap.IsCell cl (some ul)) (r:H cl=none)
  (ns:h'.Ns s.heap.objs.size λz=>[(x,u)].reverse.lookup z) (k:∀b o,s.heap.get? b=some o->h'.get? b=some o):
  Inv (nq P w K mg base x y scope f c cl A outer s H) [] [some v,some l] H {s with heap:=h',toks:=tk}:=by
 have q:∀b:Addr,b∉(nq P w K mg base x y scope f c cl A outer s H).ex:=λb z=>absurd (show b∈([]:List Addr)from z) (by simp);have one:∀z d,(nq P w K mg base x y scope f c cl A outer s H).env.cells.lookup z=some d->z=y/\d=cl:=λz d h=>by
  have h:List.lookup z [(y,cl)]=some d:=h;rw[z42]at h;split at h
  ·rename_i e;cases h;exact⟨eq_of_beq e,rfl⟩
  ·cases h
 have hit:(nq P w K mg base x y scope f c cl A outer s H).env.cells.lookup y=some cl:=by
  show List.lookup y [(y,cl)]=some cl;simp[z42]
 have j:h'.IsCell cl (some ul):=by
  obtain⟨o,e1,C⟩:=hcl;exact⟨o,k _ _ e1,C⟩
 refine⟨⟨m.mod,S.kind,rfl,rfl,zY3 _,λa b d g n=>(one a d g).1.trans (one b d n).1.symm,λz hz=>?_,λz d hf _=>?_,λ_=>hd,Around.frames_deeper m.frames,.inr ⟨rfl,rfl⟩,λb z=>absurd z (q b),m.bs,m.bsz,λb _ _=>q b,λb z=>absurd z (q b),m.funs,m.frf⟩,
  rfl,m.bare,Un.kept k,⟨_,ns,λi z F g n E=>?_⟩,λz d h=>?_,m.hok.fresh (zY3 _),λz d h=>?_,λp t=>absurd (show p∈([]:List (Addr×Obj))from t) (by simp),m.hok.kept k,rfl⟩
 ·have hz:scope.names.lookup z=some .cell\/scope.names.lookup z=some .free:=hz;rcases hz with hz|hz
  ·exact absurd rfl (S.nocell _ (z48 hz))
  ·have:z=y:=S.only _ (z48 hz) rfl;subst this;exact⟨cl,hit⟩
 ·exact absurd (show false=true from hf) z03
 ·have g:([x,y]:List Str)[i]?=some z:=g
  match i,g,n with
  |0,g,n=>
   cases g;cases n;exact⟨u,B,.inl ⟨S.px,by simp[z42]⟩⟩
  |1,g,n=>
   cases g;cases n;exact⟨ul,D,.inr ⟨.inr S.py,cl,hit,j⟩⟩
  |i+2,g,n=>simp at g
 ·obtain⟨rfl,rfl⟩:=one z d h;exact⟨_,j⟩
 ·obtain⟨rfl,rfl⟩:=one z d h;exact r
theorem zq0 {P:Program}{w:World}{K:PySem.W.Frag}{mg:Str->Option Value}{base:Heap}{x y:Str}{params:Arguments}{body:Expr}{scope:Scope}{f c cl:Addr}{A:Around}{outer:List Env}{s:Shared}{H:Hp}{v l:V}{u ul:Value}{k:Nat}{Q:VK}{t:TE}
  (S:wj x y params scope) (hr:zG k A) (a:uS P w K mg base A outer s H) (hf:H f=some (ku f c xG params body scope [(y,cl)])) (n:H c=some (tI c)) (hcl:s.heap.IsCell cl (some ul)) (d:H cl=none) (j:RelV v u) (B:RelV l ul)
  (hb:∀pm ctv,bindArgs (PySem.W.kla_fn "<lambda>" xG params body scope [(y,cl)] pm (.ref c) ctv) ⟨[u],[]⟩=pure [(x,u)])
  (p:PE (nq P w K mg base x y scope f c cl A outer s H) body t) (hq:t [some v,some l] H Q):
  codeAny (model P w) A (.call (.ref f) ⟨[u],[]⟩) (CR CX0 outer P w H s Q E0) s:=by
 obtain⟨⟨pm,ctv,i⟩,_,_⟩:=a.hok _ _ hf;have cr:s.heap.CodeRec (.ref c) xG:=(a.hok _ _ n).1;have lim:s.heap.NoLimit:=a.mod.nolimit.keeps λb o e=>(a.bs b o e).1;refine PySem.W.kla_callFunE hr.depth i rfl S.co S.gen rfl cr ?_;rw[hb];refine zY4 ?_;refine wpAny_newFunctionEnv S.nocell (λz hz=>?_) (λh' ns m=>?_) S.kind
 ·rw[zZ1.mp hz];exact S.px
 ·have h:∀b o,s.heap.get? b=some o->h'.get? b=some o:=λb o e=>m.extBut b o (z01 (zY6 e)) (zX7 _ e);refine⟨lim.keeps h,PySem.W.kla_codeExpr ?_⟩;have I:=fw (tk:=s.toks+[(x,u)].length) (f:=f) (c:=c) S hr.hd a j B hcl d ns h;refine z31 (p [] _ _ H _ I hq) (λD s' g=>?_) λe s' g=>g.elim;obtain⟨r,H',J,C,q⟩:=g;exact⟨r,H',J.os,J.bare,J.base,J.hok,C,q⟩
open PySem.W SortA
section
variable {X:Cx}{pins:List (Addr×Obj)}{σ:St}{H:Hp}{s:Shared}
def za7 (X:Cx)(H1 a:Hp)(s1 s2:Shared):Prop:=∀b o,s1.heap.get? b=some o->H1 b=none->b∉frs X.stack->s2.heap.get? b=some o/\a b=none
structure zc2 (X:Cx)(pins:List (Addr×Obj))(σ:St)(H:Hp)(D kS:Addr)(e1:Nat)(ps:List (Int×Int))(i:Nat)(s':Shared):Prop where
 ex:∃(H':Hp) (ks:List Value) (xs:List V) (e:Nat),Inv X pins σ H' s'/\(∀a o,H a=some o->H' a=some o)/\s'.heap.get? D=some (seqObj "list" #[] e1)/\s'.heap.get? kS=some (seqObj "list" ks.toArray e)/\H' D=none/\H' kS=none/\Vals xs ks/\PrV H' xs (ps.take i)
theorem gU {A:Around}{E:Value->Shared->Prop}{vs:List Value}{ps:List (Int×Int)}{f D kS:Addr}{e1:Nat}{Q:PUnit->Shared->Prop}(hlen:vs.length=ps.length)(S:vs.length<64)(O:D∉frs X.stack)(L:kS∉frs X.stack)(hne:D≠kS)
  (W:∀H',H' kS=none->yW X pins H' kS)
  (d:∀i v,vs[i]?=some v->∀H1 s1,Inv X pins σ H1 s1->(∀a o,H a=some o->H1 a=some o)->
   wpAny (model X.prog X.w) A (call (.ref f) [v]) (λu s2=>∃t c,u=.ref t/\Inv X pins σ c s2/\(∀a o,H1 a=some o->c a=some o)/\c t=some (.tup [.int (at2 ps i).1,.int (at2 ps i).2])/\za7 X H1 c s1 s2) (λ_ _=>False) s1)
  (h0:zc2 X pins σ H D kS e1 ps 0 s) (P:∀s',zc2 X pins σ H D kS e1 ps vs.length s'->Q PUnit.unit s'):
  wpAny (model X.prog X.w) A (forIn vs PUnit.unit λx __s=>do
   let __do_lift <-(call (.ref f) [x]).attempt
   match __do_lift with
    |Except.ok k=>do
     Builtin.List.listUpdate (.ref kS) λx=>x.push k
     pure (ForInStep.yield PUnit.unit)
    |Except.error e=>do
     rule "list.sort.key-raised"
     let made <-Builtin.List.listItems (.ref kS)
     Builtin.List.listUpdate (.ref kS) λx=>#[]
     letGo made.toList.reverse [e]
     Builtin.List.listUpdate (Value.ref D) λx=>vs.toArray
     throw e
     pure (ForInStep.yield PUnit.unit)) Q E s:=by
 refine ksk_fold (zc2 X pins σ H D kS e1 ps) vs 0 s h0 (λj x s' G y=>?_) (λs' y=>P s' (by simpa using y));obtain⟨H1,ks,xs,e,R,st,M,T,U,B,J,pr⟩:=y.ex;rw[yh0]at pr ⊢;have g:j<ps.length:=by rw[<-hlen];exact(zY0.mp G).1
 have l:ks.length=j:=by rw[<-J.length,pr.len,z46];lia
 refine zX6 (wpAny_attempt (z31 (d j x G H1 s' R st) (λu s2 Z=>?_) λ_ _ z=>z.elim));obtain⟨t,c,rfl,Y,h,I,kp⟩:=Z;obtain⟨r,C⟩:=kp D _ M U O;obtain⟨m,n⟩:=kp kS _ T B L;refine zX6 (listUpdate_at m rfl (zY4 ⟨rfl,?_⟩) (by rw[zZ5,l,z44];lia) (by rw[Array.size_push,zZ5,l,z44];lia));obtain⟨F,hk⟩:∃F,(s2.heap.update kS (Obj.mapSeq λx=>x.push (Value.ref t))).get? kS=some (seqObj "list" (ks++[Value.ref t]).toArray F):=by
  have:=z89 m λx=>x.push (Value.ref t);rw[List.push_toArray]at this;exact⟨_,this⟩
 have K:∀b o,b∉[kS]->s2.heap.get? b=some o->(s2.heap.update kS (Obj.mapSeq λx=>x.push (Value.ref t))).get? b=some o:=λb o nb q=>(zZ2 _ _ (z23 (by simpa using nb))).trans q;refine⟨c,ks++[Value.ref t],xs++[V.ref t],F,Y.turnL (t':=s2.toks) K (λb hb=>by rw[zZ1.mp hb];exact W c n),λa o q=>h a o (st a o q),K D _ (by simpa using hne) r,hk,C,n,J.append (.cons rfl .nil),?_⟩;rw[z43,zY1 g];refine PrV.app (pr.keep λa p q z=>h _ _ z) ?_;have N:at2 ps j=ps[j]:=by unfold at2;rw[z08,zY1 g];rfl
 rw[N]at I;exact .cons I .nil
theorem lV {A:Around}{E:Value->Shared->Prop}{vs:List Value}{ps:List (Int×Int)}{f D:Addr}{n:Nat}{S:PySem.Fin->Shared->Prop}(I:Inv X pins σ H s)(U:s.heap.get? D=some (seqObj "list" vs.toArray n))(hlen:vs.length=ps.length)(l:vs.length<64)(fD:H D=none)
  (nD:D∉frs X.stack) (O:∀H',H' D=none->yW X pins H' D)
  (F:∀i v,vs[i]?=some v->∀H1 s1,Inv X pins σ H1 s1->(∀a o,H a=some o->H1 a=some o)->
   wpAny (model X.prog X.w) A (call (.ref f) [v]) (λu s2=>∃t V,u=.ref t/\Inv X pins σ V s2/\(∀a o,H1 a=some o->V a=some o)/\V t=some (.tup [.int (at2 ps i).1,.int (at2 ps i).2])/\za7 X H1 V s1 s2) (λ_ _=>False) s1)
  (h:∀out H' s' c,Srt vs ps out->Inv X pins σ H' s'->(∀a o,H a=some o->H' a=some o)->s'.heap.get? D=some (seqObj "list" out.toArray c)->H' D=none->S (.done (.ret .none)) s'):
  wpAny (model X.prog X.w) A (ksk_tree D (.ref f) false) S E s:=by
 have hD:D<s.heap.objs.size:=zY6 U;have s1:=yd2 s.heap D (Obj.mapSeq λ_=>(#[]:Array Value));obtain⟨e1,B⟩:∃e1,(s.heap.update D (Obj.mapSeq λ_=>(#[]:Array Value))).get? D=some (seqObj "list" #[] e1):=⟨_,z89 U λ_=>#[]⟩;have y:(s.heap.update D (Obj.mapSeq λ_=>(#[]:Array Value))).objs.size=s.heap.objs.size:=Heap.size_update _ _ _;unfold ksk_tree;refine zX6 (listItems_at U rfl ?_);refine zX6 (listUpdate_at U rfl ?_ (by rw[zZ5,z44];exact gN l) (zZ6 _));generalize a6:s.heap.update D (Obj.mapSeq λ_=>(#[]:Array Value))=h1 at s1 B y;refine zX6 (seqEpoch_at B rfl ?_);refine zX6 (wpAny_newTuple ?_ (by show vs.length<=_;rw[z44];exact gN l));refine zX6 (wpAny_newList ?_ (zZ6 _));refine z41 ?_;show wpAny (model X.prog X.w) A (ksk_rest D (.ref f) false vs.toArray e1 (.ref (h1.push (seqObj "tuple" vs.toArray 0)).objs.size)) S E {s with heap:=(h1.push (seqObj "tuple" vs.toArray 0)).push (seqObj "list" #[] 0)};have J:(h1.push (seqObj "tuple" vs.toArray 0)).objs.size=s.heap.objs.size+1:=by rw[size_push',y]
 have C:((h1.push (seqObj "tuple" vs.toArray 0)).push (seqObj "list" #[] 0)).get? (h1.push (seqObj "tuple" vs.toArray 0)).objs.size=some (seqObj "list" #[] 0):=zZ0 _ rfl;have N:((h1.push (seqObj "tuple" vs.toArray 0)).push (seqObj "list" #[] 0)).get? D=some (seqObj "list" #[] e1):=zX7 _ (zX7 _ B);have k1:∀b o,b∉[D]->s.heap.get? b=some o->((h1.push (seqObj "tuple" vs.toArray 0)).push (seqObj "list" #[] 0)).get? b=some o:=λb o hb e=>
  zX7 _ (zX7 _ ((s1.2 b (by simpa using hb)).trans e))
 have I0:Inv X pins σ H {s with heap:=(h1.push (seqObj "tuple" vs.toArray 0)).push (seqObj "list" #[] 0),toks:=s.toks}:=I.turnL k1 λb hb=>by rw[zZ1.mp hb];exact O H fD
 generalize (h1.push (seqObj "tuple" vs.toArray 0)).push (seqObj "list" #[] 0)=T at C N k1 I0;generalize a7:(h1.push (seqObj "tuple" vs.toArray 0)).objs.size=kS at J C;have K:s.heap.objs.size<=kS:=by rw[J];exact z82 _
 have fK:∀H',H' kS=none->yW X pins H' kS:=λH' hn=>I.fpOk K hn;have nK:(kS:Addr)∉frs X.stack:=λz=>by
  rcases zY2.mp (I.stkSub _ z)with q|q
  ·exact(I.fpOk (H':=λ_=>none) K rfl).2.1 q
  ·exact(I.fpOk (H':=λ_=>none) K rfl).2.2.1 q
 have hne:D≠kS:=z01 (zX9 hD K);have a0:H kS=none:=I.hok.fresh K;unfold ksk_rest;refine zX6 (wpAny_rule ?_);rw[yi3];refine zX6 (gU (s:={s with heap:=T}) hlen l nD nK hne fK F ⟨H,[],[],0,I0,λ_ _ q=>q,N,C,fD,a0,.nil,.nil⟩ λs' hI=>?_);obtain⟨H1,ks,xs,e,I1,st,eD,eK,L,Y,rv,pr⟩:=hI.ex;rw[hlen,z40]at pr;have k:ks.length=vs.length:=by rw[<-rv.length,pr.len,hlen]
 refine zX6 (listItems_at eK rfl ?_);unfold ksk_end;dsimp only;rw[if_neg (by decide)];have P:Prs s'.heap ks ps:=pr.prs I1 rv;have tail:∀(g:SortSt) (out:List Value),out.length<=64->Srt vs ps out->failedOf g=none->(arrOf g).map (·.2)=out.toArray->wpAny (model X.prog X.w) A (ksk_tail D false e1 (.ref kS) g) S E s':=by
  intro g out lo G hf M;unfold ksk_tail;dsimp only;rw[M,hf];refine zX6 (listUpdate_at eK rfl ?_ (by rw[zZ5,k,z44];exact gN l) (zZ6 _));have s3:=yd2 s'.heap kS (Obj.mapSeq λ_=>(#[]:Array Value));have r:(s'.heap.update kS (Obj.mapSeq λ_=>(#[]:Array Value))).get? D=some (seqObj "list" #[] e1):=(s3.2 D hne).trans eD;have I3:Inv X pins σ H1 {s' with heap:=s'.heap.update kS (Obj.mapSeq λ_=>(#[]:Array Value)),toks:=s'.toks}:=I1.turnL (ch:=[kS]) (λb o hb q=>(s3.2 b (by simpa using hb)).trans q) λb hb=>by rw[zZ1.mp hb];exact fK H1 Y
  generalize s'.heap.update kS (Obj.mapSeq λ_=>(#[]:Array Value))=h3 at r I3;refine zX6 (z94 ?_);refine zX6 (seqEpoch_at r rfl ?_);rw[if_neg (by decide)];refine zX6 (listUpdate_at r rfl ?_ (zZ6 _) (by rw[zZ5,z44];lia));have s4:=yd2 h3 D (Obj.mapSeq λ_=>out.toArray);obtain⟨c4,Z⟩:∃c4,(h3.update D (Obj.mapSeq λ_=>out.toArray)).get? D=some (seqObj "list" out.toArray c4):=⟨_,z89 r λ_=>out.toArray⟩;simp only[bne_self_eq_false,z34,z87];have I4:=I3.turnL (ch:=[D]) (t':=s'.toks) (h':=h3.update D (Obj.mapSeq λ_=>out.toArray)) (λb o hb q=>(s4.2 b (by simpa using hb)).trans q) λb hb=>by rw[zZ1.mp hb];exact O H1 L
  exact zY4 (h out H1 _ c4 G I4 st Z L)
 by_cases j:vs.toArray.size<2
 ·rw[if_pos j,if_pos j];have W:vs.length<2:=by simpa using j
  refine zX6 (zY4 ?_);refine zX6 (zY4 ?_);dsimp only;have G:Srt vs ps vs:=by
   match vs,ps,W,hlen with
   |[],[],_,_=>exact⟨[],rfl,rfl,λ_ h=>by simp at h,.refl _,.nil⟩
   |[v],[p],_,_=>exact⟨[0],rfl,rfl,λi h=>by simp at h;subst h;simp,.refl _,by simp⟩
   |_::_::_,_,W,_=>simp only[z00]at W;exact(zS9 W).elim
  refine tail _ vs (by lia) G rfl ?_;rw[if_neg (by decide)];show(ks.toArray.zip vs.toArray).map (·.2)=vs.toArray;apply Array.toList_inj.mp;rw[Array.toList_map,Array.toList_zip];exact List.map_snd_zip (zZ7 k.symm)
 ·rw[if_neg j,if_neg j,if_neg (by decide)];have T:2<=vs.length:=by simp at j;exact j
  have ask:=kA (prog:=X.prog) (w:=X.w) (A:=A) (s:=s') (by rw[k];exact T) P
   (R:=λp m=>Srt vs ps (p.toList.map λi=>vs.getD i Value.none)/\m=s') (λix a b c d=>⟨⟨ix,by simp,a,b,c,d⟩,rfl⟩)
  refine zX6 (z31 ask (λκ s0 hk=>?_) λ_ _ x=>x.elim);rw[k]at hk;refine zX6 (z31 (kat_run (Q:=λg m=>∃p:Array Nat,p.size=vs.length/\arrOf g=p.map (kas_item (ks.toArray.zip vs.toArray))/\failedOf g=none/\Srt vs ps (p.toList.map λi=>vs.getD i Value.none)/\m=s')
   k T l (λp' g m a1 a2 a3 a4=>⟨p',a1,a2,a3,a4⟩) hk) ?_ λ_ _ e=>e)
  rintro⟨⟨⟩,g⟩ m ⟨p,hp,a5,hf,G,rfl⟩;dsimp only;exact tail g _ (by rw[G.len,<-hlen];exact z30 l) G hf (kat_snds k a5)
end
section
variable {X:Cx}{pins:List (Addr×Obj)}{σ:St}{H:Hp}{s:Shared}
theorem Inv.adopt {D:Addr}{o:HO}(I:Inv X pins σ H s)(fp:yW X pins H D)(new:zD X.prog X.w (upd H D o) s.heap D o):Inv X pins σ (upd H D o) s:=by
 have a:=fp.1;have st:∀b u,H b=some u->upd H D o b=some u:=λb u e=>by rw[zc (zk e a)];exact e
 have:=I.step (g':=s.gens) (t':=s.toks) (d':=s.drawn) (h':=s.heap) (H':=upd H D o) (ch:=[D]) (λb hb=>by rw[zZ1.mp hb];exact⟨fp.2.2.2.1,fp.2.1,fp.2.2.2.2.1,fp.2.2.2.2.2⟩) (λb u _ _ _ e _=>e) (λb u _ _ _ e _=>⟨u.slots,e⟩) (λb u hb e n=>by rw[zc (by simpa using hb)];exact n)
  (λb u _ e=>⟨u,e⟩) (λb xs e=>st b _ e) (λb u xs e=>st b _ e) (λb ps e=>⟨#[],by rw[st b _ e];simp⟩) (λm hm=>hm) (λb u e=>?_) I.bare
 ·exact this
 ·by_cases hb:b=D
  ·subst hb;rw[zh]at e;cases e;exact new
  ·rw[zc hb]at e;exact(I.hok b u e).stay (λc v _ q=>q) (λc q=>st c _ q) λc xs q=>st c _ q
theorem oM {A:Around}{E:Value->Shared->Prop}{l f:Addr}{vs:List Value}{ps:List (Int×Int)}{Q:Value->Shared->Prop}(I:Inv X pins σ H s)(x:s.heap.IsList l vs.toArray)(hlen:vs.length=ps.length)(d:vs.length<64)
  (g:∀i v,vs[i]?=some v->∀H1 s1,Inv X pins σ H1 s1->(∀a o,H a=some o->H1 a=some o)->
   wpAny (model X.prog X.w) A.in1.in1 (call (.ref f) [v]) (λu s2=>∃t p,u=.ref t/\Inv X pins σ p s2/\(∀a o,H1 a=some o->p a=some o)/\p t=some (.tup [.int (at2 ps i).1,.int (at2 ps i).2])/\za7 X H1 p s1 s2) (λ_ _=>False) s1)
  (h:∀D out H' s' c,s.heap.objs.size<=D->Srt vs ps out->Inv X pins σ H' s'->(∀a o,H a=some o->H' a=some o)->s'.heap.get? D=some (seqObj "list" out.toArray c)->H' D=none->yW X pins H' D->Q (.ref D) s'):
  wpAny (model X.prog X.w) A (call (.builtin "sorted") [.ref l] [("key",.ref f)]) Q E s:=by
 refine call_function_entry_kw kind_sorted plain_sorted entry_sorted (ksk_s1 _ _) ?_;unfold Builtin.«sorted»;refine zX6 (m:=checkCount "sorted" 1 1 _) (zY4 ?_);refine zX6 (collect_list x ?_ (by rw[z44];exact gN d));refine zX6 (wpAny_newList ?_ (by rw[z44];exact gN d));have hsz:((s.heap.push (seqObj "list" #[] 0)).update s.heap.objs.size (Obj.mapSeq (·++vs.toArray))).objs.size=s.heap.objs.size+1:=by rw[Heap.size_update,size_push']
 have n:(((s.heap.push (seqObj "list" #[] 0)).update s.heap.objs.size (Obj.mapSeq (·++vs.toArray))).push (seqObj "list" vs.toArray 0)).get? (s.heap.objs.size+1)=some (seqObj "list" vs.toArray 0):=by rw[<-hsz];exact zZ0 _ rfl
 have keep:∀b o,s.heap.get? b=some o->(((s.heap.push (seqObj "list" #[] 0)).update s.heap.objs.size (Obj.mapSeq (·++vs.toArray))).push (seqObj "list" vs.toArray 0)).get? b=some o:=λb o q=>by
  have j:b<s.heap.objs.size:=zY6 q;rw[Heap.get?_push_ne _ _ _ (by rw[hsz];exact z01 (yb3 j)),Heap.get?_update_ne _ _ _ _ (z01 j),Heap.get?_push_ne _ _ _ (z01 j)];exact q
 show wpAny _ _ _ _ _ {s with heap:=((s.heap.push (seqObj "list" #[] 0)).update s.heap.objs.size (Obj.mapSeq (·++vs.toArray))).push (seqObj "list" vs.toArray 0)};rw[hsz];have B:Inv X pins σ H {s with heap:=((s.heap.push (seqObj "list" #[] 0)).update s.heap.objs.size (Obj.mapSeq (·++vs.toArray))).push (seqObj "list" vs.toArray 0),toks:=s.toks}:=I.kept keep;have k:s.heap.objs.size<=s.heap.objs.size+1:=z82 _;refine zX6 (z41 (wpAny_call_entry_kw slot_list_sort ⟨_,n,rfl⟩ entry_list_sort ?body (ksk_l1 _ _)))
 case body=>
  rw[ksk_t1];refine lV (s:={s with heap:=((s.heap.push (seqObj "list" #[] 0)).update s.heap.objs.size (Obj.mapSeq (·++vs.toArray))).push (seqObj "list" vs.toArray 0)}) B n hlen d (I.hok.fresh k) (λz=>?_) (λH' hn=>I.fpOk k hn) g λout H' s' c y C st e r=>?_
  ·rcases zY2.mp (I.stkSub _ z)with q|q
   ·exact(I.fpOk (H':=λ_=>none) k rfl).2.1 q
   ·exact(I.fpOk (H':=λ_=>none) k rfl).2.2.1 q
  ·exact⟨_,rfl,zY4 ⟨_,rfl,h _ out H' s' c k y C st e r (I.fpOk k r)⟩⟩
end
section
variable {X:Cx}{a:Expr}{p pos kpos lpos p1 p2 p3 p4 p5 p6:Pos}{n1:Nat}{x y:Str}{params:Arguments}{scope:Scope}
abbrev pairE (x y:Str)(n1:Nat)(p1 p2 p3 p4 p5 p6:Pos):Expr:=.Tuple [.Subscript (.Name y p1) (.Name x p2) p3,.UnaryOp .USub (.Name x p4) p5] n1 p6
def keyOf (zs:List Int)(n:Int):Int×Int:=(zs.getD n.toNat 0,-n)
theorem zo2 {P:Program}{w:World}{K:PySem.W.Frag}{mg:Str->Option Value}{base:Heap}{f c cl l:Addr}{A:Around}{outer:List Env}{s:Shared}{H:Hp}{u ul:Value}{k:Nat}{n:Int}{zs:List Int}
  (S:wj x y params scope) (hr:zG k A) (q:uS P w K mg base A outer s H) (hf:H f=some (ku f c xG params (pairE x y n1 p1 p2 p3 p4 p5 p6) scope [(y,cl)])) (h:H c=some (tI c)) (hcl:s.heap.IsCell cl (some ul)) (b:H cl=none) (g:RelV (.int n) u) (r:RelV (.ref l) ul)
  (hb:∀pm ctv,bindArgs (PySem.W.kla_fn "<lambda>" xG params (pairE x y n1 p1 p2 p3 p4 p5 p6) scope [(y,cl)] pm (.ref c) ctv) ⟨[u],[]⟩=pure [(x,u)])
  (hdx:(x == ("__debug__":Str))=false) (hdy:(y == ("__debug__":Str))=false) (hcx:(x == ("__classdict__":Str))=false) (hcy:(y == ("__classdict__":Str))=false)
  (m:SqL K H l (zs.map V.int)) (h0:0<=n) (e:n<zs.length):
  codeAny (model P w) A (.call (.ref f) ⟨[u],[]⟩) (CR CX0 outer P w H s (λv H'=>∃t,v=.ref t/\H t=none/\H'=upd H t (.tup [.int (keyOf zs n).1,.int (keyOf zs n).2])) E0) s:=by
 obtain⟨j,rfl⟩:=ya7 h0;have d:j<zs.length:=(om9 e);refine zq0 S hr q hf h hcl b g r hb (t:=_) (lZ (zy (vR xq (yB (i:=1) rfl (Or.inr (Or.inr S.py)) hdy hcy) (yB (i:=0) rfl (Or.inl S.px) hdx hcx) (λ_ _=>rfl)) (zy (zz3 bZ (yB (i:=0) rfl (Or.inl S.px) hdx hcx)) zW))) ?_;refine⟨_,rfl,_,rfl,l,_,_,.int (zs.getD j 0),rfl,rfl,m,pH ?_,_,rfl,_,rfl,(by show 2<=sizeLine;decide),λt o=>⟨t,rfl,o,?_⟩⟩
 ·rw[zY7,zY1 d,z08,zY1 d];rfl
 ·simp[keyOf]
def zd7 (ns zs ms:List Int):Prop:=ms.Perm ns/\ms.Pairwise λm k=>lx (keyOf zs k) (keyOf zs m)=false
theorem aN {ns zs:List Int}{vs out:List Value}(r:Vals (ns.map V.int) vs)(h:Srt vs (ns.map (keyOf zs)) out):∃ms,zd7 ns zs ms/\Vals (ms.map V.int) out:=by
 obtain⟨b,rfl,d,hb,c,hw⟩:=h;have at_:∀i∈b,at2 (ns.map (keyOf zs)) i=keyOf zs (ns.getD i 0):=λi hi=>by
  have:=hb i hi;rw[zX8]at this;unfold at2;rw[z08,zY7,zY1 this,z08,zY1 this];rfl
 have em:b.map (at2 (ns.map (keyOf zs)))=(b.map λi=>ns.getD i 0).map (keyOf zs):=by
  rw[z54];exact List.map_congr_left at_
 rw[em]at c hw;have inv:∀l:List Int,(l.map (keyOf zs)).map (λq=>-q.2)=l:=λl=>by
  rw[z54];have:((λq:Int×Int=>-q.2)∘keyOf zs)=id:=by funext n;simp[keyOf]
  rw[this,List.map_id]
 refine⟨b.map λi=>ns.getD i 0,⟨?_,List.pairwise_map.mp hw⟩,?_⟩
 ·have:=c.map (λq=>-q.2)
  rwa [inv,inv]at this
 ·clear em c hw d
  induction b with
  |nil=>exact .nil
  |cons i b e=>
   refine .cons ?_ (e (λk hk=>hb k (zY5 _ hk)) λk hk=>at_ k (zY5 _ hk));have hi:=hb i zY9;rw[zX8]at hi;refine nk r i _ ?_;show _=some (V.int (ns.getD i 0));rw[zY7,zY1 hi,z08,zY1 hi];rfl
theorem wG {K:PySem.W.Frag}{H H':Hp}{a:Addr}{xs:List V}(h:SqL K H a xs)(k:∀a o,(∀ps,o≠.tbl ps)->H a=some o->H' a=some o):SqL K H' a xs:=by
 rcases h with(h|⟨o,h⟩)|h
 ·exact .inl (.inl (k _ _ (λ_ z=>by cases z) h))
 ·exact .inl (.inr ⟨o,k _ _ (λ_ z=>by cases z) h⟩)
 ·exact .inr h
theorem lP {ta:TE}{j k:Nat}{c:Addr}(S:wj x y params scope)(hr:zG (k+2) X.A)(hg:Gl X "sorted")(hm:X.mg "sorted"=none)(hN:X.N[j]?=some y)(hy:X.env.scope.names.lookup y=some .cell)
  (hcl:∀cl,X.env.cells.lookup y=some cl->closureFor scope X.env=pure [(y,cl)]) (hgl:X.env.globals=mainGlobals) (hco:X.env.code=.ref c) (hhd:PySem.W.CodeHd X.base c yk) (hbi:X.base.BuiltinsAt X.mg yk) (hdf:defaultsOf params X.env=([],[])) (hq:X.env.qual++("<lambda>":Str)=xG) (hne:mainGlobals≠yk)
  (hb:∀u cl c' pm ctv,bindArgs (PySem.W.kla_fn "<lambda>" xG params (pairE x y n1 p1 p2 p3 p4 p5 p6) scope [(y,cl)] pm (.ref c') ctv) ⟨[u],[]⟩=pure [(x,u)])
  (hdx:(x == ("__debug__":Str))=false) (hdy:(y == ("__debug__":Str))=false) (hcx:(x == ("__classdict__":Str))=false) (hcy:(y == ("__classdict__":Str))=false) (ha:PE X a ta)
  (he:starEach [a] X.env=(false,eval a X.env)::starEach [] X.env:=by rfl) (a7:backTo pos (starEach [a] X.env)=(false,eval a X.env)::backTo pos (starEach [] X.env):=by rfl) (hpl:((backTo pos (starEach [a] X.env)).any λx=>x.1)=false:=by rfl):
  PE X (.Call (.Name "sorted" p) [a] [⟨some "key",.Lambda params (pairE x y n1 p1 p2 p3 p4 p5 p6) scope lpos,kpos⟩] pos)
   (λσ H Q=>ta σ H λv H1=>∃l ns L zs,v=.ref l/\SqL X.K H1 l (ns.map V.int)/\σ[j]?=some (some (.ref L))/\SqL X.K H1 L (zs.map V.int)/\ns.length<64/\(∀n∈ns,0<=n/\n<zs.length)/\TabAt H1/\
    ∀D H' ms,H1 D=none->H' D=some (.lst (ms.map V.int))->zd7 ns zs ms->TabAt H'->(∀a o,a≠yk->H1 a=some o->H' a=some o)->Q (.ref D) H'):=by
 intro pins s σ H Q I h;refine z71 (yU I hg hm boot_sorted ?_)
 let Pd:V->Hp->Prop:=λv H1=>∃l ns L zs,v=.ref l/\SqL X.K H1 l (ns.map V.int)/\σ[j]?=some (some (.ref L))/\SqL X.K H1 L (zs.map V.int)/\ns.length<64/\(∀n∈ns,0<=n/\n<zs.length)/\TabAt H1/\
    ∀D H' ms,H1 D=none->H' D=some (.lst (ms.map V.int))->zd7 ns zs ms->TabAt H'->(∀a o,a≠yk->H1 a=some o->H' a=some o)->Q (.ref D) H'
 refine callWith_kw (thn (zy ha zW he pos pins s σ H (λvs H1=>match vs with|[v]=>Pd v H1|_=>False) I h) λus s1 a0=>?_) a7 hpl;obtain⟨vs,H1,I1,r1,q1⟩:=a0
 match vs,r1,q1 with
 |[v],r1,q1=>
  obtain⟨u,rfl,ru⟩:=vals1 r1;obtain⟨l,ns,L,zs,rfl,hS,M,hZ,R,a6,T,q⟩:=(show Pd v H1 from q1);obtain⟨m,hn,hl⟩:=id I1.loc;obtain⟨ul,rl,lk⟩:=hl j y _ hN M (.inr (.inl hy));obtain⟨cl,J,a3⟩:∃cl,X.env.cells.lookup y=some cl/\s1.heap.IsCell cl (some ul):=by
   rcases lk with⟨z,_⟩|⟨_,cl,z1,z2⟩
   ·have z:X.env.scope.names.lookup y=some .local:=z;rw[hy]at z;cases z
   ·exact⟨cl,z1,z2⟩
  show wpAny _ _ (evalAll ((do let v <-eval (.Lambda params (pairE x y n1 p1 p2 p3 p4 p5 p6) scope lpos) X.env;standAt pos;pure v)::[])) _ _ s1;refine wpAny_evalAll_cons (zX6 (zb1 I1 (hcl cl J) hgl hco hhd hbi hdf hq hne T λf c' H2 s2 I2 T2 Y a8 hf P F=>zX6 (yc9 (zY4 (wpAny_evalAll_nil ?_)))));cases ru;show wpAny _ _ (call (.builtin "sorted") [.ref l] [("key",.ref f)]) _ _ s2;have w:∀a o,(∀ps,o≠.tbl ps)->H1 a=some o->H2 a=some o:=λa o no e=>Y a o (λz=>by
   obtain⟨ps,t1,_⟩:=T.ex;rw[z,t1]at e;cases e;exact no _ rfl) e
  have S2:=wG hS w;have Z2:=wG hZ w;obtain⟨its,r,ht,hz⟩:=I2.list S2;have B:its.length=ns.length:=by rw[<-r.length,zX8]
  refine oM (ps:=ns.map (keyOf zs)) I2 ht.isList (by rw[zX8];exact B) (zZ9 (zZ7 B) R) (λi v hv H3 s3 I3 w=>?_) λD out H' s' c0 lD so I' st e fD fp=>?_
  ·have hi:i<ns.length:=by rw[<-B];exact(zY0.mp hv).1
   have rv:RelV (.int ns[i]) v:=by
    have:=nk r i (.int ns[i]) (by rw[zY7,zY1 hi];rfl)
    rwa [z08,hv]at this
   obtain⟨m3,b2,a2⟩:=id I3.loc;obtain⟨a5,b0,a9⟩:=a2 j y _ hN M (.inr (.inl hy));have G:s3.heap.IsCell cl (some a5):=by
    rcases a9 with⟨z,_⟩|⟨_,b1,z1,z2⟩
    ·have z:X.env.scope.names.lookup y=some .local:=z;rw[hy]at z;cases z
    ·rw[J]at z1;cases z1;exact z2
   have U:=a6 ns[i] (z92 hi);have ek:at2 (ns.map (keyOf zs)) i=keyOf zs ns[i]:=by
    unfold at2;rw[z08,zY7,zY1 hi];rfl
   rw[ek];have Z3:=wG Z2 λa o _ e=>w a o e;refine yc2 (yb5 (zo2 S hr.in1.in1 I3.env0.in1.in1 (w _ _ P) (w _ _ F) G (I3.freeC y cl J) rv b0 (λpm ctv=>hb _ _ _ pm ctv) hdx hdy hcx hcy Z3 U.1 U.2) λrr s4 C=>?_);cases rr with
   |error e=>exact False.elim C
   |ok fl=>
    cases fl with
    |next=>exact False.elim C
    |brk=>exact False.elim C
    |cont=>exact False.elim C
    |ret u4=>
     obtain⟨v4,H4,os,bare,un,hok,r4,t,rfl,a1,Z⟩:=C;cases r4;obtain⟨hh,g,d,tk,a4⟩:=s4;obtain rfl:a4=s3.os:=os;refine⟨t,H4,rfl,I3.call (h':=hh) (g':=g) (d':=d) (t':=tk) (ch:=[]) un hok bare (λb z=>absurd z (by simp)),λa o e=>?_,by rw[Z];exact zh,λb o e n nf=>⟨un.keep b o e n nf (by simp),un.free b o e n (by simp)⟩⟩;rw[Z,zc (zk e a1)];exact e
  ·obtain⟨ms,sm,rm⟩:=aN r so;have nD:∀a o,H' a=some o->a≠D:=λa o e z=>by rw[z,fD]at e;cases e
   have E:H2 D=none:=I2.hok.fresh lD;have O:∀a o,H2 a=some o->upd H' D (.lst (ms.map V.int)) a=some o:=λa o e=>by rw[zc (nD a o (st a o e))];exact st a o e
   refine⟨.ref D,upd H' D (.lst (ms.map V.int)),I'.adopt fp ⟨?_,out,c0,rm,e⟩,rfl,q D _ ms ?_ zh sm (T2.same λa o _ e=>O a o e) λa o no e=>O a o (Y a o no e)⟩
   ·rw[zX8,sm.1.length_eq,z44];exact gN R
   ·cases z:H1 D with
    |none=>rfl
    |some o=>
     by_cases nt:∀ps,o≠.tbl ps
     ·rw[w D o nt z]at E;cases E
     ·simp only[Classical.not_forall,Classical.not_not]at nt;obtain⟨qs,rfl⟩:=nt;obtain⟨b3,w'⟩:=a8 D qs z;rw[w']at E;cases E
end
section
variable {X:Cx}{α:Ev}{p q pos:Pos}{a b:Expr}
theorem uk {G:Hp}:∀ns:List Int,AVs G (ns.map V.int) (ns.map .int)
 |[]=>.nil
 |n::ns=>.cons (.int n) (uk ns)
theorem bU {Q:List PyData->Prop}(B:X.calm=true)(hg:Gl X "list")(hm:X.mg "list"=none)(s:Gl X "range")(g:X.mg "range"=none)(h:EvD X α a λx=>EvD X α b λy=>∃i j,x=.int i/\y=.int j/\(-(2 ^ 62)<=i/\i<2 ^ 62/\-(2 ^ 62)<=j/\j<2 ^ 62)/\(j-i).toNat<=1000/\Q ((zw i (j-i).toNat).map .int))
  (he:starEach [.Call (.Name "range" q) [a,b] [] p] X.env=(false,eval (.Call (.Name "range" q) [a,b] [] p) X.env)::starEach [] X.env:=by rfl) (d:starEach [a,b] X.env=(false,eval a X.env)::starEach [b] X.env:=by rfl) (f:starEach [b] X.env=(false,eval b X.env)::starEach [] X.env:=by rfl)
  (hpl:(backTo p (starEach [b] X.env)).any (·.1)=false:=by rfl) {E:Pos}:EvL X α (.Call (.Name "list" E) [.Call (.Name "range" q) [a,b] [] p] [] pos) Q:=λF σ H R m k=>by
 refine⟨_,wt (qj B) hg hm boot_list (zy (wt ly s g boot_range (zy zf (zy zf zW f) d) (he:=d) (hpl:=hpl)) zW he) (he:=he),?_⟩;refine h F σ H _ m λx L H1 G t1 k1 C=>?_;have m1:=m.kz k1 t1;refine G F σ H1 _ m1 λy K t I t2 k2 v=>?_;have m2:=m1.kz k2 t2;obtain⟨i,j,rfl,rfl,⟨J,D,w,A⟩,hz,q⟩:=I;cases C.int_inv;cases v.int_inv;refine⟨i,j,rfl,λr hr=>?_⟩;refine⟨r,i,j,rfl,zh,⟨J,D,w,A⟩,z30 (yb hz),by lia,λl e=>?_⟩;have n:l≠r:=λz=>by rw[z,zh]at e;cases e
 have c:t l=none:=by rw[zc n]at e;exact e
 have u:=k1.trans k2;have s1:zu t (upd (upd t r (.rng i j)) l (.lst ((zw i (j-i).toNat).map V.int))):=(zH hr).trans (zH e);refine k _ _ _ q (t2.same s1) (u.trans (Kz.of_same s1)) ⟨l,_,rfl,?_,zh,uk _⟩;cases z:H l with
 |none=>rfl
 |some o=>rw[u l o z (m.tp.nt (ow0 (m2.fresh c)))]at c;cases c
end
section
variable {X:Cx}{α:Ev}{p pos:Pos}{a b:Expr}{Q:PyData->Prop}
end
theorem AVs.ints {H:Hp}{xs:List V}{ns:List Int}(h:AVs H xs (ns.map .int)):xs=ns.map V.int:=by
 induction ns generalizing xs with
 |nil=>cases h;rfl
 |cons n ns b=>cases h with
  |cons h a=>rw[z02,b a,h.int_inv]
section
variable {X:Cx}{α:Ev}{a:Expr}{p pos kpos lpos p1 p2 p3 p4 p5 p6:Pos}{n1:Nat}{x y:Str}{params:Arguments}{scope:Scope}
structure dz (X:Cx)(c:Addr)(x y:Str)(n1:Nat)(p1 p2 p3 p4 p5 p6:Pos)(params:Arguments)(scope:Scope):Prop where
 S:wj x y params scope
 hy:X.env.scope.names.lookup y=some .cell
 hcl:∀cl,X.env.cells.lookup y=some cl->closureFor scope X.env=pure [(y,cl)]
 hgl:X.env.globals=mainGlobals
 hco:X.env.code=.ref c
 hhd:PySem.W.CodeHd X.base c yk
 hbi:X.base.BuiltinsAt X.mg yk
 hdf:defaultsOf params X.env=([],[])
 hq:X.env.qual++("<lambda>":Str)=xG
 hne:mainGlobals≠yk
 hb:∀u cl c' pm ctv,bindArgs (PySem.W.kla_fn "<lambda>" xG params (pairE x y n1 p1 p2 p3 p4 p5 p6) scope [(y,cl)] pm (.ref c') ctv) ⟨[u],[]⟩=pure [(x,u)]
 hdx:(x == ("__debug__":Str))=false
 hdy:(y == ("__debug__":Str))=false
 hcx:(x == ("__classdict__":Str))=false
 hcy:(y == ("__classdict__":Str))=false
theorem ky {j k:Nat}{c:Addr}{Q:List PyData->Prop}(T:dz X c x y n1 p1 p2 p3 p4 p5 p6 params scope)(hr:zG (k+2) X.A)(hg:Gl X "sorted")(hm:X.mg "sorted"=none)(K:X.N[j]?=some y)
  (h:EvD X α a λd=>∃ns zs:List Int,d=.list (ns.map .int)/\α[j]?=some (some (.dat (.list (zs.map .int))))/\ns.length<64/\(∀n∈ns,0<=n/\n<zs.length)/\∀ms,zd7 ns zs ms->Q (ms.map .int))
  (he:starEach [a] X.env=(false,eval a X.env)::starEach [] X.env:=by rfl) (i:backTo pos (starEach [a] X.env)=(false,eval a X.env)::backTo pos (starEach [] X.env):=by rfl) (hpl:((backTo pos (starEach [a] X.env)).any λx=>x.1)=false:=by rfl):
  EvL X α (.Call (.Name "sorted" p) [a] [⟨some "key",.Lambda params (pairE x y n1 p1 p2 p3 p4 p5 p6) scope lpos,kpos⟩] pos) Q:=λF σ H R m k=>by
 refine⟨_,lP (j:=j) T.S hr hg hm K T.hy T.hcl T.hgl T.hco T.hhd T.hbi T.hdf T.hq T.hne T.hb T.hdx T.hdy T.hcx T.hcy zf he i hpl,?_⟩;refine h F σ H _ m λd L H1 J t1 k1 B=>?_;have m1:=m.kz k1 t1;obtain⟨ns,zs,rfl,hz,r,f,q⟩:=J;obtain⟨l,xs,rfl,g1,g2⟩:=B.lst_inv;obtain⟨v,s1,s2⟩:=m1.dat j _ hz;obtain⟨I,ys,rfl,g3,C⟩:=s2.lst_inv;cases g2.ints;cases C.ints;refine⟨l,ns,I,zs,rfl,SqL.of (zb g1).2,s1,SqL.of (zb g3).2,r,f,t1.tab,λD H' ms hD g E G kp=>?_⟩;have s:∀a xs,H1 a=some (.lst xs)->H' a=some (.lst xs):=λa xs e=>kp a _ (λz=>by
  obtain⟨ps,e1,_⟩:=t1.tab.ex;rw[z,e1]at e;cases e) e
 have kz:Kz F H1 H':=λx o e n=>kp x o n.2 e;refine k _ _ H' (q ms E) ⟨G,t1.ot,λt b c e=>⟨?_,(t1 t b c e).2⟩⟩ (k1.trans kz) ⟨D,_,rfl,?_,g,uk _⟩
 ·obtain⟨n,bs,cs,n1,e1,w,u,l1,l2⟩:=(t1 t b c e).1.ex;exact⟨n,bs,cs,n1,s _ _ e1,s _ _ w,s _ _ u,l1,l2⟩
 ·cases z:H D with
  |none=>rfl
  |some o=>rw[k1 D o z (m.tp.nt (ow0 (m1.fresh hD)))]at hD;cases hD
end
section
variable {P:Program}{w:World}{K:PySem.W.Frag}{mg:Str->Option Value}{base:Heap}
theorem zW9 {x qual:Str}{st:Stmt}{f:Addr}{N ps:List Str}{k:Nat}{φ:List A->(A->Prop)->Prop}{oc:Value}{od an:Option Addr}{osl:Array (Option Value)}{kV doc pm cdv ct:Value}
  (p:K.lookup f=some ⟨oc,od,.func (PySem.W.fnOf x qual (zL st) (zr st) (zd st) .none kV doc pm an cdv ct),osl⟩) (i:PySem.W.codeIn K cdv qual=true) (S:zI N ps (zd st)) (hlen:∀as Q,φ as Q->as.length=ps.length)
  (c:∀(d:Around) (outer:List Env) (s:Shared) (H:Hp) (E:XK) (as:List A) (Q:A->Prop),zG k (d.deeper (envOfC qual (zd st) s.heap.objs.size f cdv))->φ as Q->
   SvS (xr CX0 P w K mg base N qual (zd st) f cdv d outer s H E).nox (as.map some++List.replicate (N.length-as.length) none) (zr st) {nx:=λ_=>Q (.dat .none),rt:=Q}):yv P w K mg base CX0 (k+1) f (PySem.W.fnOf x qual (zL st) (zr st) (zd st) .none kV doc pm an cdv ct) ps (spA φ):=by
 refine ia p i S (λvs H Q E h=>?_) (λd outer s H vs l E hr h=>?_)
 ·obtain⟨F,as,n,_,_,_,g,b,_⟩:=h;rw[g.length,hlen as _ b]
 ·obtain⟨F,as,n,e,t,o,g,b,j⟩:=h;have:=c d outer s H E as n hr b F _ H {nx:=λ_ H'=>l .non H',rt:=l} (M.start e t o g) ⟨λα σ H' m q=>?_,λa v H' r q=>j a v H' q r,λ_ _ _ _ z=>z.elim,λ_ _ _ _ z=>z.elim⟩
  ·obtain⟨t,h,q⟩:=this;exact⟨t,h.nox,q⟩
  ·exact j _ _ _ q ⟨m.tp,m.keep,.non⟩
end
section
variable {X:Cx}{α:Ev}{Q:PyData->Prop}{a b:Expr}{pos:Pos}
end
theorem yV {c m:Int}{n:Nat}:m∈zw c n↔c<=m/\m<c+n:=by
 simp only[zw,z47,List.mem_range]
 constructor
 ·rintro⟨i,hi,rfl⟩;lia
 ·rintro⟨a,b⟩;exact⟨(m-c).toNat,by lia,(zT8 a)⟩
open PySem (IsZip)
section
variable {prog:Program}{w:World}{A:Around}{E:Value->Shared->Prop}{s:Shared}
theorem mG {M:Model}{a:Addr}{Q:Option Obj->Shared->Prop}(h:Q (s.heap.get? a) s):wpAny M A (loadIfAlive a) Q E s:=λb p c=>by
 show Sem.wp M b (.loadIfAlive a .pure) _ _ p s;rw[Sem.wp_loadIfAlive];exact h
abbrev zO (f0 f1:Value)(TI TO:Addr):Obj:={cls:=.type "zip",dict:=none,data:=.fields #[f0,f1,.bool false,.ref TI,.ref TO],slots:=#[]}
abbrev tO3 (a b c:Value):Obj:={cls:=.type "tuple",data:=.seq #[a,b,c]}
theorem xW {T:Addr}{a b c x:Value}{k:Nat}{Q:Unit->Shared->Prop}(hT:s.heap.get? T=some (tO3 a b c))
  (h:∀h',h'.get? T=some {cls:=.type "tuple",data:=.seq ((#[a,b,c]:Array Value).setIfInBounds k x)}->Heap.SameBut T s.heap h'->Q () {s with heap:=h'}):
  wpAny (model prog w) A (updateSeq T (·.setIfInBounds k x)) Q E s:=by
 refine z78 hT rfl (h _ ?_ (yd2 ..));rw[z49 _ hT rfl];simp[Obj.mapSeq]
structure wV (h:Heap)(n:Nat)(l1 l2 l3:Addr)(k:Nat)(f0 f1 a b c:Value):Prop where
 z:h.get? (n+5:Nat)=some (zO f0 f1 (n+3:Nat) (n+4:Nat))
 ti:h.get? (n+3:Nat)=some (tO3 (.ref (n:Nat)) (.ref (n+1:Nat)) (.ref (n+2:Nat)))
 to:h.get? (n+4:Nat)=some (tO3 a b c)
 i1:h.IsListIter (n:Nat) l1 k
 i2:h.IsListIter (n+1:Nat) l2 k
 i3:h.IsListIter (n+2:Nat) l3 k
abbrev z3 (n:Nat):List Addr:=[(n:Nat),(n+1:Nat),(n+2:Nat),(n+3:Nat),(n+4:Nat),(n+5:Nat)]
theorem zp (a b:Nat)(h:a<b\/b<a):@Ne Addr a b:=λe=>by
 have e:@Eq Nat a b:=e
 lia
theorem lR {n l1 l2 l3:Nat}{k:Nat}{f1 a b c x y z:Value}{xs ys zs:Array Value}{Q:Value->Shared->Prop}(h1:l1<n)(h2:l2<n)(X:l3<n)(Z:wV s.heap n l1 l2 l3 k .none f1 a b c)
  (a8:s.heap.IsList l1 xs) (b0:s.heap.IsList l2 ys) (a9:s.heap.IsList l3 zs) (hx:xs[k]?=some x) (hy:ys[k]?=some y) (hz:zs[k]?=some z)
  (hQ:∀h',wV h' n l1 l2 l3 (k+1) (rawInt s.heap.objs.size) (.bool false) x y z->h'.get? s.heap.objs.size=some (tO3 x y z)->
   (∀c o,c∉z3 n->s.heap.get? c=some o->h'.get? c=some o)->Q (.ref s.heap.objs.size) {s with heap:=h'}):
  wpAny (model prog w) A (Builtin.«zip.__next__» ⟨[.ref (n+5:Nat)],[]⟩) (λfin s'=>∃v,fin=.done (.ret v)/\Q v s') E s:=by
 obtain⟨H,a6,a7,g1,g2,g3⟩:=Z;show wpAny _ _ (field (.ref _) 2 >>= _) _ _ _;refine zX6 (z63 H rfl (x:=.bool false) rfl ?_);show wpAny _ _ (field (.ref _) 3 >>= _) _ _ _;refine zX6 (z63 H rfl (x:=.ref (n+3:Nat)) rfl ?_);refine zX6 (z51 a6 rfl ?_);show wpAny _ _ (Builtin.SmallTypes.ownedTupleIsFree (.ref (n+5:Nat)) >>= _) _ _ _;refine zX6 ?_;unfold Builtin.SmallTypes.ownedTupleIsFree;refine zX6 (z63 H rfl (x:=.none) rfl (zY4 ?_));simp only[ya8];refine zX6 (wpAny_rule ?_);refine zX6 (z63 H rfl (x:=.ref (n+4:Nat)) rfl ?_);refine zX6 (ye4 H (by simp) λV t f=>?_)
 replace t:V.get? (n+5:Nat)=some (zO .ellipsis f1 (n+3:Nat) (n+4:Nat)):=t
 refine zX6 ?_;simp only[List.zipIdx_cons,List.zipIdx_nil,yd5,yi0];refine zX6 (zX6 (wpAny_onRaise ?_));show wpAny _ _ (Builtin.SmallTypes.nextOf (.ref (n:Nat)) >>= _) _ _ _;refine zX6 (z83 (g1.extBut f.extBut (by refine zp _ _ ?_;exact bE)) (a8.extBut f.extBut (by refine zp _ _ ?_;exact .inl (zX9 h1 (zZ4 _ _)))) hx λa2 M g=>zY4 ?_);have B:a2.get? (n+4:Nat)=some (tO3 a b c):=g.extBut _ _ (by refine zp _ _ ?_;exact zx9) (f.extBut _ _ (by refine zp _ _ ?_;exact zb6) a7);refine zX6 (z51 B rfl ?_);refine zX6 (xW B λa3 q h=>?_)
 replace q:a3.get? (n+4:Nat)=some (tO3 x b c):=q
 refine zX6 (z94 (zY4 ?_));refine zX6 (zX6 (wpAny_onRaise ?_));show wpAny _ _ (Builtin.SmallTypes.nextOf (.ref (n+1:Nat)) >>= _) _ _ _;refine zX6 (z83 (((g2.extBut f.extBut (by refine zp _ _ ?_;exact dI)).extBut g.extBut (by refine zp _ _ ?_;exact .inr (z56 _))).extBut h.extBut (by refine zp _ _ ?_;exact cn))
  (((b0.extBut f.extBut (by refine zp _ _ ?_;exact .inl (zX9 h2 (zZ4 _ _)))).extBut g.extBut (by refine zp _ _ ?_;exact .inl h2)).extBut h.extBut (by refine zp _ _ ?_;exact .inl (zX9 h2 (zZ4 _ _)))) hy λa0 T i=>zY4 ?_)
 have C:a0.get? (n+4:Nat)=some (tO3 x b c):=i.extBut _ _ (by refine zp _ _ ?_;exact zz6) q;refine zX6 (z51 C rfl ?_);refine zX6 (xW C λa4 r j=>?_)
 replace r:a4.get? (n+4:Nat)=some (tO3 x y c):=r
 refine zX6 (z94 (zY4 ?_));refine zX6 (zX6 (wpAny_onRaise ?_));show wpAny _ _ (Builtin.SmallTypes.nextOf (.ref (n+2:Nat)) >>= _) _ _ _;refine zX6 (z83 (((((g3.extBut f.extBut (by refine zp _ _ ?_;exact ak)).extBut g.extBut (by refine zp _ _ ?_;exact zz1)).extBut h.extBut (by refine zp _ _ ?_;exact cL)).extBut i.extBut (by refine zp _ _ ?_;exact zw8)).extBut j.extBut (by refine zp _ _ ?_;exact cL))
  (((((a9.extBut f.extBut (by refine zp _ _ ?_;exact .inl (zX9 X (zZ4 _ _)))).extBut g.extBut (by refine zp _ _ ?_;exact .inl X)).extBut h.extBut (by refine zp _ _ ?_;exact .inl (zX9 X (zZ4 _ _)))).extBut i.extBut (by refine zp _ _ ?_;exact .inl (zX9 X (zZ4 _ _)))).extBut j.extBut (by refine zp _ _ ?_;exact .inl (zX9 X (zZ4 _ _)))) hz λa1 S m=>zY4 ?_)
 have D:a1.get? (n+4:Nat)=some (tO3 x y c):=m.extBut _ _ (by refine zp _ _ ?_;exact zv3) r;refine zX6 (z51 D rfl ?_);refine zX6 (xW D λd p l=>?_)
 replace p:d.get? (n+4:Nat)=some (tO3 x y z):=p
 refine zX6 (z94 (zY4 (zY4 ?_)));refine zX6 (z51 p rfl ?_);refine zX6 (wpAny_newTuple ?_);have hsz:d.objs.size=s.heap.objs.size:=by rw[l.1,m.1,j.1,i.1,h.1,g.1,f.1]
 have Y:∀c o,c≠(n+5:Nat)->c≠(n:Nat)->c≠(n+4:Nat)->c≠(n+1:Nat)->c≠(n+2:Nat)->s.heap.get? c=some o->d.get? c=some o:=λc o c1 c2 c3 c4 c5 e=>
  l.extBut _ _ c3 (m.extBut _ _ c5 (j.extBut _ _ c3 (i.extBut _ _ c4 (h.extBut _ _ c3 (g.extBut _ _ c2 (f.extBut _ _ c1 e))))))
 have F:d.get? (n+5:Nat)=some (zO .ellipsis f1 (n+3:Nat) (n+4:Nat)):=l.extBut _ _ (by refine zp _ _ ?_;exact bN) (m.extBut _ _ (by refine zp _ _ ?_;exact zt6) (j.extBut _ _ (by refine zp _ _ ?_;exact bN) (i.extBut _ _ (by refine zp _ _ ?_;exact zu9) (h.extBut _ _ (by refine zp _ _ ?_;exact bN) (g.extBut _ _ (by refine zp _ _ ?_;exact zs2) t)))));have R:d.IsListIter (n:Nat) l1 (k+1):=((((M.extBut h.extBut (by refine zp _ _ ?_;exact cz)).extBut i.extBut (by refine zp _ _ ?_;exact .inl (z56 _))).extBut j.extBut (by refine zp _ _ ?_;exact cz)).extBut m.extBut (by refine zp _ _ ?_;exact zr9)).extBut l.extBut (by refine zp _ _ ?_;exact cz);have P:d.IsListIter (n+1:Nat) l2 (k+1):=((T.extBut j.extBut (by refine zp _ _ ?_;exact cn)).extBut m.extBut (by refine zp _ _ ?_;exact zv1)).extBut l.extBut (by refine zp _ _ ?_;exact cn);have L:d.IsListIter (n+2:Nat) l3 (k+1):=S.extBut l.extBut (by refine zp _ _ ?_;exact cL);have J:=Y _ _ (by refine zp _ _ ?_;exact dn) (by refine zp _ _ ?_;exact zy3) (by refine zp _ _ ?_;lia) (by refine zp _ _ ?_;exact zv0) (by refine zp _ _ ?_;exact zw0) a6;have K:(n+5:Nat)<d.objs.size:=zY6 F;show wpAny _ _ (Builtin.SmallTypes.ownedTupleHandOut (.ref (n+5:Nat)) (.ref d.objs.size) >>= _) _ _ _;refine zX6 ?_;unfold Builtin.SmallTypes.ownedTupleHandOut;have O:(d.push {cls:=.type "tuple",data:=.seq #[x,y,z]}).get? (n+5:Nat)=some (zO .ellipsis f1 (n+3:Nat) (n+4:Nat)):=zX7 _ F;refine zX6 (ye4 O (by simp) λU u G=>?_)
 replace u:U.get? (n+5:Nat)=some (zO (rawInt d.objs.size) f1 (n+3:Nat) (n+4:Nat)):=u
 refine ye4 u (by simp) λhA I W=>?_
 replace I:hA.get? (n+5:Nat)=some (zO (rawInt d.objs.size) (.bool false) (n+3:Nat) (n+4:Nat)):=I
 have up:∀c o,c≠(n+5:Nat)->d.get? c=some o->hA.get? c=some o:=λc o c1 e=>W.extBut _ _ c1 (G.extBut _ _ c1 (zX7 _ e));have a5:hA.get? d.objs.size=some (tO3 x y z):=W.extBut _ _ (z70 K) (G.extBut _ _ (z70 K) (zZ0 _ rfl));rw[hsz]at I a5;refine zY4 ⟨_,rfl,?_⟩;show Q (.ref d.objs.size) _;rw[hsz];refine hQ hA ⟨I,up _ _ (by refine zp _ _ ?_;exact dn) J,up _ _ (by refine zp _ _ ?_;exact zb6) p,R.at λo e=>up _ o (by refine zp _ _ ?_;exact bE) e,P.at λo e=>up _ o (by refine zp _ _ ?_;exact dI) e,L.at λo e=>up _ o (by refine zp _ _ ?_;exact ak) e⟩ a5 λc o N e=>?_;simp only[z3,zY2,zZ8,z33,not_or]at N;exact up c o N.2.2.2.2.2 (Y c o N.2.2.2.2.2 N.1 N.2.2.2.2.1 N.2.1 N.2.2.1 e)
theorem qD {n l1 l2 l3 k T:Nat}{f1 a b c:Value}{ot:Obj}{Q:Bool->Shared->Prop}(q:l1<n)(t:l2<n)(r:l3<n)(Z:wV s.heap n l1 l2 l3 k (rawInt (T:Nat)) f1 a b c)(hT:s.heap.get? T=some ot)
  (m:∀h' l,wV h' n l1 l2 l3 k (rawInt (T:Nat)) l a b c->h'.objs.size=s.heap.objs.size->(∀c o,c≠(n+5:Nat)->s.heap.get? c=some o->h'.get? c=some o)->Q false {s with heap:=h'}):
  wpAny (model prog w) A (Builtin.SmallTypes.ownedTupleIsFree (.ref (n+5:Nat))) Q E s:=by
 obtain⟨g,j,i,g1,g2,g3⟩:=Z;unfold Builtin.SmallTypes.ownedTupleIsFree;refine zX6 (z63 g rfl (x:=rawInt (T:Nat)) rfl ?_);show wpAny _ _ (loadIfAlive ((T:Int).toNat) >>= _) _ _ _;refine zX6 (mG ?_);rw[show((T:Int).toNat)=T from yf5 T,hT];show wpAny _ _ (field (.ref (n+5:Nat)) 1 >>= _) _ _ _;refine zX6 (z63 g rfl (x:=f1) rfl ?_);refine yb0 (λ_=>?_) (λ_=>?_)
 ·refine zX6 (ye4 g (by simp) λh f d=>zY4 ?_)
  replace f:h.get? (n+5:Nat)=some (zO (rawInt (T:Nat)) (.bool true) (n+3:Nat) (n+4:Nat)):=f
  exact m h _ ⟨f,d.extBut _ _ (by refine zp _ _ ?_;exact dn) j,d.extBut _ _ (by refine zp _ _ ?_;exact zb6) i,g1.extBut d.extBut (by refine zp _ _ ?_;exact bE),g2.extBut d.extBut (by refine zp _ _ ?_;exact dI),g3.extBut d.extBut (by refine zp _ _ ?_;exact ak)⟩ d.1 λc o p e=>d.extBut _ _ p e
 ·exact zY4 (m s.heap f1 ⟨g,j,i,g1,g2,g3⟩ rfl λ_ _ _ e=>e)
theorem eJ {n l1 l2 l3 k T:Nat}{f1 a b c x y z:Value}{ot:Obj}{xs ys zs:Array Value}{Q:Value->Shared->Prop}(M:l1<n)(K:l2<n)(F:l3<n)(Z:wV s.heap n l1 l2 l3 k (rawInt (T:Nat)) f1 a b c)(hT:s.heap.get? T=some ot)
  (u:s.heap.IsList l1 xs) (r:s.heap.IsList l2 ys) (q:s.heap.IsList l3 zs) (S:xs[k]?=some x) (hy:ys[k]?=some y) (hz:zs[k]?=some z)
  (U:∀h' B,wV h' n l1 l2 l3 (k+1) (rawInt (T:Nat)) B a b c->h'.get? s.heap.objs.size=some (tO3 x y z)->
   (∀c o,c∉z3 n->s.heap.get? c=some o->h'.get? c=some o)->Q (.ref s.heap.objs.size) {s with heap:=h'}):
  wpAny (model prog w) A (Builtin.«zip.__next__» ⟨[.ref (n+5:Nat)],[]⟩) (λfin s'=>∃v,fin=.done (.ret v)/\Q v s') E s:=by
 show wpAny _ _ (field (.ref _) 2 >>= _) _ _ _;refine zX6 (z63 Z.z rfl (x:=.bool false) rfl ?_);show wpAny _ _ (field (.ref _) 3 >>= _) _ _ _;refine zX6 (z63 Z.z rfl (x:=.ref (n+3:Nat)) rfl ?_);refine zX6 (z51 Z.ti rfl ?_);show wpAny _ _ (Builtin.SmallTypes.ownedTupleIsFree (.ref (n+5:Nat)) >>= _) _ _ _;refine zX6 (qD M K F Z hT λG B ZB J D=>?_);obtain⟨I,L,H,g1,g2,g3⟩:=ZB
 replace u:G.IsList l1 xs:=u.at λo e=>D _ o (by refine zp _ _ ?_;exact .inl (zX9 M (zZ4 _ _))) e
 replace r:G.IsList l2 ys:=r.at λo e=>D _ o (by refine zp _ _ ?_;exact .inl (zX9 K (zZ4 _ _))) e
 replace q:G.IsList l3 zs:=q.at λo e=>D _ o (by refine zp _ _ ?_;exact .inl (zX9 F (zZ4 _ _))) e
 simp only[z34,z87];rw[yi3];simp only[yd5,yi0];refine zX6 (zX6 (zX6 (z41 ?_)));show wpAny _ _ (Builtin.SmallTypes.nextOf (.ref (n:Nat)) >>= _) _ _ _;refine zX6 (z83 g1 u S λO j d=>zY4 (zY4 ?_));refine zX6 (zX6 (z41 ?_));show wpAny _ _ (Builtin.SmallTypes.nextOf (.ref (n+1:Nat)) >>= _) _ _ _;refine zX6 (z83 (g2.extBut d.extBut (by refine zp _ _ ?_;exact .inr (z56 _))) (r.extBut d.extBut (by refine zp _ _ ?_;exact .inl K)) hy λN t f=>zY4 (zY4 ?_));refine zX6 (zX6 (z41 ?_));show wpAny _ _ (Builtin.SmallTypes.nextOf (.ref (n+2:Nat)) >>= _) _ _ _;refine zX6 (z83 ((g3.extBut d.extBut (by refine zp _ _ ?_;exact zz1)).extBut f.extBut (by refine zp _ _ ?_;exact zw8)) ((q.extBut d.extBut (by refine zp _ _ ?_;exact .inl F)).extBut f.extBut (by refine zp _ _ ?_;exact .inl (zX9 F (zZ4 _ _)))) hz λg p h=>zY4 (zY4 (zY4 ?_)));refine zX6 (wpAny_newTuple ?_ (by show 3<=sizeLine;decide));have hsz:g.objs.size=s.heap.objs.size:=by rw[h.1,f.1,d.1];exact J
 have i:∀c o,c≠(n:Nat)->c≠(n+1:Nat)->c≠(n+2:Nat)->G.get? c=some o->g.get? c=some o:=λc o R V P e=>h.extBut _ _ P (f.extBut _ _ V (d.extBut _ _ R e));have up:∀c o,g.get? c=some o->(g.push {cls:=.type "tuple",data:=.seq #[x,y,z]}).get? c=some o:=λc o e=>zX7 _ e;have l:g.IsListIter (n:Nat) l1 (k+1):=(j.extBut f.extBut (by refine zp _ _ ?_;exact .inl (z56 _))).extBut h.extBut (by refine zp _ _ ?_;exact zr9);have m:g.IsListIter (n+1:Nat) l2 (k+1):=t.extBut h.extBut (by refine zp _ _ ?_;exact zv1);refine zY4 ⟨_,rfl,?_⟩;show Q (.ref g.objs.size) _;rw[hsz];refine U _ B ⟨up _ _ (i _ _ (by refine zp _ _ ?_;exact zs2) (by refine zp _ _ ?_;exact zu9) (by refine zp _ _ ?_;exact zt6) I),up _ _ (i _ _ (by refine zp _ _ ?_;exact zy3) (by refine zp _ _ ?_;exact zv0) (by refine zp _ _ ?_;exact zw0) L),up _ _ (i _ _ (by refine zp _ _ ?_;exact zx9) (by refine zp _ _ ?_;exact zz6) (by refine zp _ _ ?_;exact zv3) H),l.at λo e=>up _ o e,m.at λo e=>up _ o e,p.at λo e=>up _ o e⟩ ?_ λc o C e=>?_
 ·rw[<-hsz];exact zZ0 _ rfl
 ·simp only[z3,zY2,zZ8,z33,not_or]at C;exact up c o (i c o C.1 C.2.1 C.2.2.1 (D c o C.2.2.2.2.2 e))
theorem cZ {n l1 l2 l3 k T:Nat}{f1 a b c:Value}{ot:Obj}{xs:Array Value}{Q:PySem.Fin->Shared->Prop}(u:A.handled=none)(j:l1<n)(y:l2<n)(p:l3<n)(Z:wV s.heap n l1 l2 l3 k (rawInt (T:Nat)) f1 a b c)(hT:s.heap.get? T=some ot)
  (f:s.heap.IsList l1 xs) (m:xs[k]?=none)
  (l:∀h' e,(∀c o,c∉z3 n->s.heap.get? c=some o->h'.get? c=some o)->(∃o,h'.get? e=some o/\o.cls=.type "StopIteration")->E (.ref e) {s with heap:=h'}):
  wpAny (model prog w) A (Builtin.«zip.__next__» ⟨[.ref (n+5:Nat)],[]⟩) Q E s:=by
 show wpAny _ _ (field (.ref _) 2 >>= _) _ _ _;refine zX6 (z63 Z.z rfl (x:=.bool false) rfl ?_);show wpAny _ _ (field (.ref _) 3 >>= _) _ _ _;refine zX6 (z63 Z.z rfl (x:=.ref (n+3:Nat)) rfl ?_);refine zX6 (z51 Z.ti rfl ?_);show wpAny _ _ (Builtin.SmallTypes.ownedTupleIsFree (.ref (n+5:Nat)) >>= _) _ _ _;refine zX6 (qD j y p Z hT λt v ZB r i=>?_)
 replace f:t.IsList l1 xs:=f.at λo e=>i _ o (by refine zp _ _ ?_;exact .inl (zX9 j (zZ4 _ _))) e
 simp only[z34,z87];rw[yi3];simp only[yd5,yi0];refine zX6 (zX6 (zX6 (z41 ?_)));show wpAny _ _ (Builtin.SmallTypes.nextOf (.ref (n:Nat)) >>= _) _ _ _;refine zX6 (wpAny_nextOf_list_end u ZB.i1 f m λg e d he=>?_);refine l g e (λc o h q=>?_) he;simp only[z3,zY2,zZ8,z33,not_or]at h;exact d _ _ h.1 (i _ _ h.2.2.2.2.2 q)
theorem mi {n l1 l2 l3 k:Nat}{f1 a b c x y z:Value}{xs ys zs:Array Value}{Q:Option Value->Shared->Prop}(g:l1<n)(m:l2<n)(j:l3<n)(Z:wV s.heap n l1 l2 l3 k .none f1 a b c)
  (f:s.heap.IsList l1 xs) (d:s.heap.IsList l2 ys) (e:s.heap.IsList l3 zs) (h:xs[k]?=some x) (hy:ys[k]?=some y) (hz:zs[k]?=some z)
  (i:∀h',wV h' n l1 l2 l3 (k+1) (rawInt s.heap.objs.size) (.bool false) x y z->h'.get? s.heap.objs.size=some (tO3 x y z)->
   (∀c o,c∉z3 n->s.heap.get? c=some o->h'.get? c=some o)->Q (some (.ref s.heap.objs.size)) {s with heap:=h'}):
  wpAny (model prog w) A (pyNext (.ref (n+5:Nat))) Q E s:=by
 have hT:s.TypeIs (.ref (n+5:Nat)) "zip":=⟨_,Z.z,rfl⟩;unfold pyNext;exact zX6 (wpAny_attempt (yf2 (name:=Str.ofString "__next__") hT z68
  (yg3 z68 hT yf6
   (lR g m j Z f d e h hy hz λh' a1 a2 l=>zY4 (i h' a1 a2 l)) (yf3 _))))
theorem kT {n l1 l2 l3 k T:Nat}{f1 a b c x y z:Value}{ot:Obj}{xs ys zs:Array Value}{Q:Option Value->Shared->Prop}(i:l1<n)(q:l2<n)(m:l3<n)(Z:wV s.heap n l1 l2 l3 k (rawInt (T:Nat)) f1 a b c)(hT:s.heap.get? T=some ot)
  (h:s.heap.IsList l1 xs) (g:s.heap.IsList l2 ys) (f:s.heap.IsList l3 zs) (j:xs[k]?=some x) (hy:ys[k]?=some y) (hz:zs[k]?=some z)
  (l:∀h' d,wV h' n l1 l2 l3 (k+1) (rawInt (T:Nat)) d a b c->h'.get? s.heap.objs.size=some (tO3 x y z)->
   (∀c o,c∉z3 n->s.heap.get? c=some o->h'.get? c=some o)->Q (some (.ref s.heap.objs.size)) {s with heap:=h'}):
  wpAny (model prog w) A (pyNext (.ref (n+5:Nat))) Q E s:=by
 have e:s.TypeIs (.ref (n+5:Nat)) "zip":=⟨_,Z.z,rfl⟩;unfold pyNext;exact zX6 (wpAny_attempt (yf2 (name:=Str.ofString "__next__") e z68
  (yg3 z68 e yf6
   (eJ i q m Z hT h g f j hy hz λh' d a1 a2 p=>zY4 (l h' d a1 a2 p)) (yf3 _))))
theorem eO {n l1 l2 l3 k T:Nat}{f1 a b c:Value}{ot:Obj}{xs:Array Value}{Q:Option Value->Shared->Prop}(i:A.handled=none)(h:l1<n)(q:l2<n)(p:l3<n)(Z:wV s.heap n l1 l2 l3 k (rawInt (T:Nat)) f1 a b c)(hT:s.heap.get? T=some ot)
  (f:s.heap.IsList l1 xs) (j:xs[k]?=none)
  (l:∀h',(∀c o,c∉z3 n->s.heap.get? c=some o->h'.get? c=some o)->Q none {s with heap:=h'}):
  wpAny (model prog w) A (pyNext (.ref (n+5:Nat))) Q E s:=by
 have d:s.TypeIs (.ref (n+5:Nat)) "zip":=⟨_,Z.z,rfl⟩;unfold pyNext;refine zX6 (wpAny_attempt (yf2 (name:=Str.ofString "__next__") d z68
  (yg3 z68 d yf6 (cZ i h q p Z hT f j λh' e hk he=>?_) (yf3 _))))
 obtain⟨o,g,m⟩:=he;refine zX6 (wpAny_isInstance (T:="StopIteration") (b:=true) ⟨o,g,m⟩ isSubtype_stop ?_);exact zY4 (l _ hk)
end
section
variable {X:Cx}{pins:List (Addr×Obj)}{σ:St}{H:Hp}{s:Shared}
def Tri (H0 H:Hp)(xs ys zs vs:List V)(i:Nat):Prop:=vs.length=i/\∀j,j<i->∃t x y z,vs[j]?=some (.ref t)/\xs[j]?=some x/\ys[j]?=some y/\zs[j]?=some z/\H t=some (.tup [x,y,z])/\H0 t=none
structure ZAt (X:Cx)(pins:List (Addr×Obj))(σ:St)(H:Hp)(n l1 l2 l3:Nat)(S:Addr)(xs ys zs:List V)(i:Nat)(s':Shared):Prop where
 ex:∃(H':Hp) (acc:List Value) (vs:List V) (e:Nat) (f0 f1 a b c:Value),Inv X pins σ H' s'/\(∀a o,H a=some o->H' a=some o)/\s'.heap.get? S=some {cls:=.type "list",dict:=none,data:=.seq acc.toArray e,slots:=#[]}/\H' S=none/\(∀b∈z3 n,H' b=none)/\
  wV s'.heap n l1 l2 l3 i f0 f1 a b c/\(i=0/\f0=.none\/∃(T:Nat) (ot:Obj),f0=rawInt (T:Nat)/\s'.heap.get? T=some ot/\T∉S::z3 n)/\Vals vs acc/\Tri H H' xs ys zs vs i
structure zB0 (X:Cx)(pins:List (Addr×Obj))(σ:St)(H:Hp)(S:Addr)(xs ys zs:List V)(s':Shared):Prop where
 ex:∃(H':Hp) (acc:List Value) (vs:List V) (e:Nat),Inv X pins σ H' s'/\(∀a o,H a=some o->H' a=some o)/\s'.heap.get? S=some {cls:=.type "list",dict:=none,data:=.seq acc.toArray e,slots:=#[]}/\H' S=none/\Vals vs acc/\Tri H H' xs ys zs vs xs.length
theorem Tri.snoc {H0 H H':Hp}{xs ys zs vs:List V}{i:Nat}{t:Addr}{x y z:V}(h:Tri H0 H xs ys zs vs i)(k:∀a o,H a=some o->H' a=some o)(l:xs[i]?=some x)(hy:ys[i]?=some y)(hz:zs[i]?=some z)(n:H' t=some (.tup [x,y,z]))(hn:H0 t=none):Tri H0 H' xs ys zs (vs++[.ref t]) (i+1):=by
 refine⟨by rw[z04,h.1];rfl,λj g=>?_⟩;rcases z96 j i with b|b
 ·obtain⟨t',c,r,f,e1,m,q,d,e,p⟩:=h.2 j b;exact⟨t',c,r,f,by rw[z22 (by rw[h.1];exact b)];exact e1,m,q,d,k _ _ e,p⟩
 ·have:j=i:=(z77 (z75 g) b);subst this;exact⟨t,x,y,z,by rw[z38 (by rw[h.1];exact zY3 _),h.1];simp,l,hy,hz,n,hn⟩
theorem fF {A:Around}{R:Result->Shared->Prop}{n l1 l2 l3:Nat}{S:Addr}{xs ys zs:List V}(hh:A.handled=none)(W:l1<n)(h2:l2<n)(h3:l3<n)(fS:∀H',H' S=none->yW X pins H' S)(fz:∀b∈z3 n,∀H',H' b=none->yW X pins H' b)(m:S∉z3 n)
  (U:SqL X.K H l1 xs) (q2:SqL X.K H l2 ys) (q3:SqL X.K H l3 zs) (e2:ys.length=xs.length) (e3:zs.length=xs.length) (h0:0<xs.length) (hN:xs.length<=1000)
  (hR:∀s',zB0 X pins σ H S xs ys zs s'->R (.ok (.ret .none)) s'):
  ∀(k i:Nat) (s:Shared),xs.length-i=k->i<=xs.length->ZAt X pins σ H n l1 l2 l3 S xs ys zs i s->codeAny (model X.prog X.w) A (.builtin "list.extend.loop" ⟨[.ref S,.ref (n+5:Nat),.none],[]⟩) R s:=by
 have a0:A.in1.handled=none:=hh;intro k
 induction k with
 |zero=>
  intro i s hk hi B;have a2:i=xs.length:=(zt3 hk hi);subst a2;obtain⟨H',acc,vs,e,f0,f1,a,b,c,I,st,E,nS,Q,Z,fr,P,tr⟩:=B.ex;refine ya0 PySem.F.entry_extend_loop ?_;rw[z73 z67 _];show wpAny _ A.in1 (pyNext (.ref (n+5:Nat)) >>= _) _ _ s;rcases fr with⟨z,_⟩|⟨T,ot,rfl,hT,g⟩
  ·exact(z36 _ (zX9 h0 (zZ7 z))).elim
  obtain⟨D,y,p1,a7⟩:=I.list (wG U λa o _ e=>st a o e);refine zX6 (eO a0 W h2 h3 Z hT p1.isList (by rw[yb7,yb8];rw[y.length];exact zY3 _) λh' h=>?_);refine zY4 (hR _ ⟨H',acc,vs,e,I.turnL (t':=s.toks) (ch:=z3 n) (λb o hb q=>h b o hb q) (λb hb=>fz b hb H' (Q b hb)),st,h _ _ m E,nS,P,tr⟩)
 |succ k ih=>
  intro i s hk hi B;have p:i<xs.length:=(zx4 hk);obtain⟨H',acc,vs,e,f0,f1,a,b,c,I,st,E,nS,Q,Z,fr,P,tr⟩:=B.ex;refine ya0 PySem.F.entry_extend_loop ?_;rw[z73 z67 _];show wpAny _ A.in1 (pyNext (.ref (n+5:Nat)) >>= _) _ _ s;obtain⟨D,y,p1,a7⟩:=I.list (wG U λa o _ e=>st a o e);obtain⟨a9,a5,p2,b1⟩:=I.list (wG q2 λa o _ e=>st a o e);obtain⟨b0,a4,p3,b2⟩:=I.list (wG q3 λa o _ e=>st a o e);have gx:xs[i]?=some xs[i]:=zY1 p;have gy:ys[i]?=some ys[i]:=zY1 (zX9 p (zZ7 e2.symm));have gz:zs[i]?=some zs[i]:=zY1 (zX9 p (zZ7 e3.symm));obtain⟨u,hu,ru⟩:=y.get gx;obtain⟨v,hv,a6⟩:=a5.get gy;obtain⟨w,hw,a3⟩:=a4.get gz;have t:acc.length=i:=by rw[<-P.length,tr.1]
  have G:∀b∈z3 n,b<s.heap.objs.size:=λb hb=>by
   have:∃o,s.heap.get? b=some o:=by
    simp only[z3,zY2,zZ8,z33]at hb;obtain⟨o1,U,_⟩:=Z.i1;obtain⟨o2,q2,_⟩:=Z.i2;obtain⟨o3,q3,_⟩:=Z.i3;rcases hb with rfl|rfl|rfl|rfl|rfl|rfl
    ·exact⟨_,U⟩
    ·exact⟨_,q2⟩
    ·exact⟨_,q3⟩
    ·exact⟨_,Z.ti⟩
    ·exact⟨_,Z.to⟩
    ·exact⟨_,Z.z⟩
   obtain⟨o,q⟩:=this;exact zY6 q
  have main:∀(h':Heap) (l r a' Y c':Value),wV h' n l1 l2 l3 (i+1) l r a' Y c'->(∃(T:Nat) (ot:Obj),l=rawInt (T:Nat)/\h'.get? T=some ot/\T∉S::z3 n)->h'.get? s.heap.objs.size=some (tO3 u v w)->
    (∀c o,c∉z3 n->s.heap.get? c=some o->h'.get? c=some o)->wpAny (model X.prog X.w) A.in1 (updateSeq S (·.push (.ref s.heap.objs.size)) >>= λ_=>again (.builtin "list.extend.loop" ⟨[.ref S,.ref (n+5:Nat),.none],[]⟩))
     (λfin s'=>match fin with|.done f=>R (.ok f) s'|.again c'=>c'.quiet=true/\codeAny (model X.prog X.w) A c' R s') (λe s'=>R (.error e) s') {s with heap:=h'}:=by
   intro h' l r a' Y c' j ⟨T,ot,hf,hT,g⟩ C h;have nT:H' s.heap.objs.size=none:=I.hok.fresh (zY3 _);have a8:H s.heap.objs.size=none:=by
    cases q:H s.heap.objs.size with
    |none=>rfl
    |some o=>rw[st _ _ q]at nT;cases nT
   have L:∀a o,H' a=some o->upd H' s.heap.objs.size (.tup [xs[i],ys[i],zs[i]]) a=some o:=λa o q=>by rw[zc (zk q nT)];exact q
   have J:=I.turnLay (t':=s.toks) (h':=h') (ch:=z3 n) (T:=s.heap.objs.size) (o:=.tup [xs[i],ys[i],zs[i]]) h (λb hb=>fz b hb H' (Q b hb)) (zY3 _) ⟨by show 3<=sizeLine;decide,[u,v,w],.cons ru (.cons a6 (.cons a3 .nil)),_,C,rfl,0,rfl⟩;have M:=h _ _ m E;have N:S<s.heap.objs.size:=zY6 E;have O:upd H' s.heap.objs.size (.tup [xs[i],ys[i],zs[i]]) S=none:=by rw[zc (z01 N)];exact nS
   obtain⟨e',a1⟩:∃e',(h'.update S (Obj.mapSeq (·.push (Value.ref s.heap.objs.size)))).get? S=some {cls:=.type "list",dict:=none,data:=.seq (acc++[Value.ref s.heap.objs.size]).toArray e',slots:=#[]}:=by
    have:=z89 (c:="list") M λx=>x.push (Value.ref s.heap.objs.size);rw[List.push_toArray]at this;exact⟨_,this⟩
   refine zX6 ?_;refine z78 M rfl (zY4 ⟨z85 z67 _,ih (i+1) _ (za9 hk) p ⟨_,acc++[.ref s.heap.objs.size],vs++[.ref s.heap.objs.size],e',l,r,a',Y,c',
    J.turnL (t':=s.toks) (ch:=[S]) (λb o hb q=>(zZ2 _ _ (z23 (by simpa using hb))).trans q) (λb hb=>by rw[zZ1.mp hb];exact fS _ O),λa o q=>L _ _ (st a o q),a1,O,λb hb=>?_,?_,.inr ⟨T,ot,hf,?_,g⟩,P.append (.cons (show RelV (.ref s.heap.objs.size) (.ref s.heap.objs.size)from rfl) .nil),tr.snoc L gx gy gz zh a8⟩⟩)
    (by rw[zZ5,t,z44];lia) (by show(acc.toArray.push _).size<=sizeLine+1;rw[Array.size_push,zZ5,t,z44];lia)
   ·rw[zc]
    ·exact Q b hb
    ·exact z01 (G b hb)
   ·have d:∀b o,b≠S->h'.get? b=some o->(h'.update S (Obj.mapSeq (·.push (Value.ref s.heap.objs.size)))).get? b=some o:=λb o hb q=>(zZ2 _ _ (z23 hb)).trans q;simp only[z3,zY2,zZ8,z33,not_or]at m;obtain⟨d1,d2,d3,d4,d5,d6⟩:=m;exact⟨d _ _ (z23 d6) j.z,d _ _ (z23 d4) j.ti,d _ _ (z23 d5) j.to,j.i1.at λo q=>d _ o (z23 d1) q,j.i2.at λo q=>d _ o (z23 d2) q,j.i3.at λo q=>d _ o (z23 d3) q⟩
   ·exact(zZ2 _ _ (λz=>g (by rw[<-z];exact zY9))).trans hT
  rcases fr with⟨_,rfl⟩|⟨T,ot,rfl,hT,g⟩
  ·refine zX6 (mi W h2 h3 Z p1.isList p2.isList p3.isList (by simpa using hu) (by simpa using hv) (by simpa using hw) λh' j C h=>?_);refine main h' _ _ _ _ _ j ⟨s.heap.objs.size,_,rfl,C,?_⟩ C h;intro z;rcases zY2.mp z with z|z
   ·exact absurd (zY6 E) (by rw[<-z];exact z36 _)
   ·exact absurd (G _ z) (z36 _)
  ·refine zX6 (kT W h2 h3 Z hT p1.isList p2.isList p3.isList (by simpa using hu) (by simpa using hv) (by simpa using hw) λh' r j C h=>?_);exact main h' _ _ _ _ _ j ⟨T,ot,rfl,h _ _ (λz=>g (zY5 _ z)) hT,g⟩ C h
end
theorem sR (a b c:Value):checkTypeCall "zip" ⟨[a,b,c],[]⟩=pure ():=by kernel_rfl
theorem qm (a b c:Value):checkBuiltinCall "zip.__new__" ⟨[.type "zip",a,b,c],[]⟩=pure ():=by kernel_rfl
theorem vU (a b c d:Value):argsOk "object.__init__" ⟨[a,b,c,d],[]⟩:=by unfold argsOk;rw[signature?_of (id:="object.__init__") (n:=['_','_','t','i','n','i','_','_']) (o:=['t','c','e','j','b','o']) (by kernel_rfl) PySem.F.owner_object];kernel_rfl
theorem lY :typeLookup (.type "zip") "__len__"=pure none:=by rw[yd9,ya1];kernel_rfl
theorem nM :typeLookup (.type "zip") "__length_hint__"=pure none:=by rw[yd9,ya1];kernel_rfl
abbrev itO (l:Addr):Obj:={cls:=.type "list_iterator",data:=.fields #[.ref l,.int 0 0]}
abbrev zh3 (h:Heap)(l1 l2 l3:Addr):Heap:=((h.push (itO l1)).push (itO l2)).push (itO l3)
abbrev zh4 (h:Heap)(l1 l2 l3:Addr):Heap:=(zh3 h l1 l2 l3).push (tO3 (.ref h.objs.size) (.ref (h.push (itO l1)).objs.size) (.ref ((h.push (itO l1)).push (itO l2)).objs.size))
abbrev zh5 (h:Heap)(l1 l2 l3:Addr):Heap:=(zh4 h l1 l2 l3).push (tO3 .none .none .none)
abbrev zh6 (h:Heap)(l1 l2 l3:Addr):Heap:=(zh5 h l1 l2 l3).push (zO .none (.bool false) (zh3 h l1 l2 l3).objs.size (zh4 h l1 l2 l3).objs.size)
theorem sy (l1 l2 l3:Addr)(xs ys zs:Array Value):
  Meets (Builtin.«zip.__new__» ⟨[.type "zip",.ref l1,.ref l2,.ref l3],[]⟩) (λ_ R s=>s.heap.IsList l1 xs/\s.heap.IsList l2 ys/\s.heap.IsList l3 zs/\
   R (.ok (.ret (.ref (zh5 s.heap l1 l2 l3).objs.size))) {s with heap:=zh6 s.heap l1 l2 l3}):=
 .of_wp λprog w A R s h=>by
  obtain⟨a,g,d,tk,os⟩:=s;obtain⟨e,c,b,h⟩:=h;have k:=sub_zip;have i:Heap.IsList (Shared.heap ⟨a,g,d,tk,os⟩) l1 xs:=e;have j:Heap.IsList (Shared.heap ⟨a.push {cls:=.type "list_iterator",data:=.fields #[.ref l1,.int 0 0]},g,d,tk,os⟩) l2 ys:=Heap.IsList.push c _;have f:Heap.IsList (Shared.heap ⟨(a.push {cls:=.type "list_iterator",data:=.fields #[.ref l1,.int 0 0]}).push {cls:=.type "list_iterator",data:=.fields #[.ref l2,.int 0 0]},g,d,tk,os⟩) l3 zs:=Heap.IsList.push (Heap.IsList.push b _) _
  wp_walk using z74 i,z74 j,z74 f
  exact⟨_,rfl,h⟩
section
variable {prog:Program}{w:World}{A:Around}{E:Value->Shared->Prop}{s:Shared}
theorem jv {l1 l2 l3:Addr}{xs ys zs:Array Value}{Q:Value->Shared->Prop}(g:s.heap.IsList l1 xs)(f:s.heap.IsList l2 ys)(d:s.heap.IsList l3 zs)
  (h:∀h',wV h' s.heap.objs.size l1 l2 l3 0 .none (.bool false) .none .none .none->h'.objs.size=s.heap.objs.size+6->(∀c o,s.heap.get? c=some o->h'.get? c=some o)->Q (.ref (s.heap.objs.size+5)) {s with heap:=h'}):
  wpAny (model prog w) A (call (.type "zip") [.ref l1,.ref l2,.ref l3]) Q E s:=by
 refine callType_new PySem.F.called_zip (by decide) (sR _ _ _) (qm _ _ _) (λobj=>vU obj _ _ _) PySem.F.entry_zip_new
  (sy l1 l2 l3 xs ys zs) ⟨g,f,d,?_⟩
 have j:(s.heap.push (itO l1)).objs.size=s.heap.objs.size+1:=z57 ..;have e:((s.heap.push (itO l1)).push (itO l2)).objs.size=s.heap.objs.size+2:=by rw[z57,j]
 have a:(zh3 s.heap l1 l2 l3).objs.size=s.heap.objs.size+3:=by rw[z57,e]
 have k:(zh4 s.heap l1 l2 l3).objs.size=s.heap.objs.size+4:=by rw[z57,a]
 have b:(zh5 s.heap l1 l2 l3).objs.size=s.heap.objs.size+5:=by rw[z57,k]
 have n:(zh6 s.heap l1 l2 l3).objs.size=s.heap.objs.size+6:=by rw[z57,b]
 have i:(zh6 s.heap l1 l2 l3).get? (zh5 s.heap l1 l2 l3).objs.size=some _:=zZ0 _ rfl;have m:(zh6 s.heap l1 l2 l3).get? (zh4 s.heap l1 l2 l3).objs.size=some _:=zX7 _ (zZ0 _ rfl);have l:(zh6 s.heap l1 l2 l3).get? (zh3 s.heap l1 l2 l3).objs.size=some _:=zX7 _ (zX7 _ (zZ0 _ rfl));have g3:(zh6 s.heap l1 l2 l3).get? ((s.heap.push (itO l1)).push (itO l2)).objs.size=some _:=zX7 _ (zX7 _ (zX7 _ (zZ0 _ rfl)));have g2:(zh6 s.heap l1 l2 l3).get? (s.heap.push (itO l1)).objs.size=some _:=zX7 _ (zX7 _ (zX7 _ (zX7 _ (zZ0 _ rfl))));have g1:(zh6 s.heap l1 l2 l3).get? s.heap.objs.size=some _:=zX7 _ (zX7 _ (zX7 _ (zX7 _ (zX7 _ (zZ0 _ rfl)))));show _/\_;rw[b,k,a]at i;rw[k]at m;rw[a,e,j]at l;rw[e]at g3;rw[j]at g2;rw[b];exact⟨⟨_,i,rfl⟩,h _ ⟨i,l,m,⟨_,g1,rfl,rfl⟩,⟨_,g2,rfl,rfl⟩,⟨_,g3,rfl,rfl⟩⟩ n λc o x=>
  zX7 _ (zX7 _ (zX7 _ (zX7 _ (zX7 _ (zX7 _ x)))))⟩
end
section
variable {X:Cx}{pins:List (Addr×Obj)}{σ:St}{H:Hp}{s:Shared}
theorem gf {A:Around}{R:Result->Shared->Prop}{n l1 l2 l3:Nat}{S:Addr}{xs ys zs:List V}(hh:A.handled=none)(N:l1<n)(h2:l2<n)(T:l3<n)(I:Inv X pins σ H s)(Z:wV s.heap n l1 l2 l3 0 .none (.bool false) .none .none .none)(u:s.heap.get? S=some {cls:=.type "list",data:=.seq #[]})
  (v:H S=none) (Y:∀b∈z3 n,H b=none) (y:∀H',H' S=none->yW X pins H' S) (fz:∀b∈z3 n,∀H',H' b=none->yW X pins H' b) (r:S∉z3 n)
  (q1:SqL X.K H l1 xs) (q2:SqL X.K H l2 ys) (q3:SqL X.K H l3 zs) (W:ys.length=xs.length) (Q:zs.length=xs.length) (h0:0<xs.length) (hN:xs.length<=1000)
  (U:∀s',zB0 X pins σ H S xs ys zs s'->R (.ok (.ret .none)) s'):
  wpAny (model X.prog X.w) A.in1 (Builtin.«list.__init__» ⟨[.ref S,.ref (n+5:Nat)],[]⟩)
   (λfin s'=>match fin with|.done f=>R (.ok f) s'|.again c'=>c'.quiet=true/\codeAny (model X.prog X.w) A c' R s') (λe s'=>R (.error e) s') s:=by
 have k:=r;simp only[z3,zY2,zZ8,z33,not_or]at k;obtain⟨D,J,L,C,G,B⟩:=k;show wpAny _ _ (do let old <-Builtin.List.listItems (.ref S);Builtin.List.listUpdate (.ref S) (λ_=>#[]);letGo old.toList.reverse;Builtin.List.listExtendWith (.ref S) (.ref (n+5:Nat)) .none) _ _ s;refine zX6 ?_;unfold Builtin.List.listItems;refine zX6 (z51 u rfl (zY4 ?_));show wpAny _ _ (updateSeq S (λ_=>#[]) >>= λ_=>letGo (#[]:Array Value).toList.reverse >>= λ_=>Builtin.List.listExtendWith (.ref S) (.ref (n+5:Nat)) .none) _ _ s;refine zX6 (z78 u rfl ?_);obtain⟨m,g⟩:∃m,(s.heap.update S (Obj.mapSeq (λ_=>(#[]:Array Value)))).get? S=some {cls:=.type "list",dict:=none,data:=.seq #[] m,slots:=#[]}:=⟨_,z89 (c:="list") u λ_=>#[]⟩;have d:∀b o,b≠S->s.heap.get? b=some o->(s.heap.update S (Obj.mapSeq (λ_=>(#[]:Array Value)))).get? b=some o:=
  λb o hb e=>(zZ2 _ _ (z23 hb)).trans e
 have p:wV (s.heap.update S (Obj.mapSeq (λ_=>(#[]:Array Value)))) n l1 l2 l3 0 .none (.bool false) .none .none .none:=⟨d _ _ (z23 B) Z.z,d _ _ (z23 C) Z.ti,d _ _ (z23 G) Z.to,Z.i1.at λo q=>d _ o (z23 D) q,Z.i2.at λo q=>d _ o (z23 J) q,Z.i3.at λo q=>d _ o (z23 L) q⟩;refine zX6 (z94 ?_);have E:Inv X pins σ H {s with heap:=s.heap.update S (Obj.mapSeq (λ_=>(#[]:Array Value))),toks:=s.toks}:=I.turnL (ch:=[S]) (λb o hb q=>d b o (by simpa using hb) q) λb hb=>by rw[zZ1.mp hb];exact y H v
 have hT:({s with heap:=s.heap.update S (Obj.mapSeq (λ_=>(#[]:Array Value)))}:Shared).TypeIs (.ref (n+5:Nat)) "zip":=⟨_,p.z,rfl⟩;unfold Builtin.List.listExtendWith;refine zX6 (yh1 hT ?_);have b1:Builtin.List.listSameRef (.ref S) (.ref (n+5:Nat))=false:=by simp[Builtin.List.listSameRef];exact B
 have b2:(Value.type "zip" == Value.type "list")=false:=by decide
 have P:(Value.type "zip" == Value.type "tuple")=false:=by decide
 simp only[b1,b2,P,yd0,z34,z87];refine zX6 (wpAny_pyIter_slot hT PySem.F.slot_zip_iter (yg3 PySem.F.slot_zip_iter hT PySem.F.entry_zip_iter ?_ (PySem.F.args_zip_iter_1 _)));show wpAny _ _ (ret (.ref (n+5:Nat))) _ _ _;refine zY4 ⟨_,rfl,"zip",_,hT,z68.lookup,?_⟩;refine zX6 (z41 ?_);unfold Builtin.List.listLengthHint;refine zX6 (yd7 hT lY ?_);show wpAny _ _ (specialOf (Value.ref (n+5:Nat)) (Str.ofString "__length_hint__") >>= _) _ _ _;refine zX6 (yd7 hT nM ?_);refine zY4 ?_;have key:∀(h:Heap) (e:Nat),h.get? S=some {cls:=.type "list",dict:=none,data:=.seq #[] e,slots:=#[]}->(∀b o,b≠S->s.heap.get? b=some o->h.get? b=some o)->codeAny (model X.prog X.w) A (.builtin "list.extend.loop" ⟨[.ref S,.ref (n+5:Nat),.none],[]⟩) R {s with heap:=h}:=by
  intro h e t a;refine fF hh N h2 T y fz r q1 q2 q3 W Q h0 hN U xs.length 0 _ (by lia) (zZ6 _) ⟨H,[],[],e,.none,.bool false,.none,.none,.none,I.turnL (t':=s.toks) (ch:=[S]) (λb o hb q=>a b o (by simpa using hb) q) (λb hb=>by rw[zZ1.mp hb];exact y H v),λ_ _ e=>e,t,v,Y,?_,.inl ⟨rfl,rfl⟩,.nil,rfl,λj O=>absurd O (Nat.not_lt_zero _)⟩;exact⟨a _ _ (z23 B) Z.z,a _ _ (z23 C) Z.ti,a _ _ (z23 G) Z.to,Z.i1.at λo q=>a _ o (z23 D) q,Z.i2.at λo q=>a _ o (z23 J) q,Z.i3.at λo q=>a _ o (z23 L) q⟩
 refine yb0 (λ_=>?_) (λ_=>zY4 ⟨z85 z67 _,key _ _ g d⟩);refine zX6 (wpAny_rule ?_);refine zX6 ?_;show wpAny _ _ (updateSeq S (·.push .none) >>= λ_=>updateSeq S (·.pop)) _ _ _;refine zX6 (z78 g rfl ?_);obtain⟨M,i⟩:∃m,((s.heap.update S (Obj.mapSeq (λ_=>(#[]:Array Value)))).update S (Obj.mapSeq (·.push Value.none))).get? S=some {cls:=.type "list",dict:=none,data:=.seq #[.none] m,slots:=#[]}:=⟨_,z89 (c:="list") g λx=>x.push Value.none⟩;refine z78 (hz:=by seq_fits) i rfl ?_;obtain⟨a0,l⟩:∃m,(((s.heap.update S (Obj.mapSeq (λ_=>(#[]:Array Value)))).update S (Obj.mapSeq (·.push Value.none))).update S (Obj.mapSeq (·.pop))).get? S=some {cls:=.type "list",dict:=none,data:=.seq #[] m,slots:=#[]}:=⟨_,z89 (c:="list") i λx=>x.pop⟩;refine zY4 ⟨z85 z67 _,key _ _ l λb o hb e=>?_⟩;exact(zZ2 _ _ (z23 hb)).trans ((zZ2 _ _ (z23 hb)).trans (d b o hb e))
end
section
variable {X:Cx}{pins:List (Addr×Obj)}{σ:St}{H:Hp}{s:Shared}
theorem sV {A:Around}{E:Value->Shared->Prop}{Q:Value->Shared->Prop}{n l1 l2 l3:Nat}{xs ys zs:List V}(v:A.handled=none)(l:l1<n)(x:l2<n)(p:l3<n)(I:Inv X pins σ H s)(Z:wV s.heap n l1 l2 l3 0 .none (.bool false) .none .none .none)
  (u:∀b∈z3 n,H b=none) (fz:∀b∈z3 n,∀H',H' b=none->yW X pins H' b)
  (f:SqL X.K H l1 xs) (g:SqL X.K H l2 ys) (d:SqL X.K H l3 zs) (r:ys.length=xs.length) (B:zs.length=xs.length) (h0:0<xs.length) (y:xs.length<=1000)
  (m:∀D s',s.heap.objs.size<=D->zB0 X pins σ H D xs ys zs s'->(∀H',H' D=none->yW X pins H' D)->Q (.ref D) s'):
  wpAny (model X.prog X.w) A (call (.type "list") [.ref (n+5:Nat)]) Q E s:=by
 refine callType_codes (Q₁:=λobj a=>obj=.ref s.heap.objs.size/\a={s with heap:=s.heap.push {cls:=.type "list",data:=.seq #[]}}) PySem.F.called_list (PySem.F.typeCall_list_1 _) PySem.F.entry_list_init
  (code_list_new _ ⟨rfl,rfl⟩) λobj a c=>?_
 obtain⟨rfl,rfl⟩:=c;have j:(s.heap.push {cls:=.type "list",data:=.seq #[]}).get? s.heap.objs.size=some {cls:=.type "list",data:=.seq #[]}:=zZ0 _ rfl;have up:∀b o,s.heap.get? b=some o->(s.heap.push {cls:=.type "list",data:=.seq #[]}).get? b=some o:=λb o e=>zX7 _ e;have k:∀H':Hp,H' s.heap.objs.size=none->yW X pins H' s.heap.objs.size:=λH' h=>I.fpOk (zY3 _) h;have i:s.heap.objs.size∉z3 n:=λhb=>by
  have:∃o,s.heap.get? s.heap.objs.size=some o:=by
   simp only[z3,zY2,zZ8,z33]at hb;obtain⟨C,f,_⟩:=Z.i1;obtain⟨G,g,_⟩:=Z.i2;obtain⟨J,d,_⟩:=Z.i3;rcases hb with z|z|z|z|z|z<;>rw[z]
   ·exact⟨_,f⟩
   ·exact⟨_,g⟩
   ·exact⟨_,d⟩
   ·exact⟨_,Z.ti⟩
   ·exact⟨_,Z.to⟩
   ·exact⟨_,Z.z⟩
  obtain⟨o,q⟩:=this;exact absurd (zY6 q) (z36 _)
 refine⟨⟨_,j,rfl⟩,PySem.F.args_list_init_2 _ _,gf (A:=A.in1) v l x p (I.kept (t':=s.toks) up) ⟨up _ _ Z.z,up _ _ Z.ti,up _ _ Z.to,Z.i1.at λo q=>up _ o q,Z.i2.at λo q=>up _ o q,Z.i3.at λo q=>up _ o q⟩ j (I.hok.fresh (zY3 _)) u k fz i f g d r B h0 y λs' t=>⟨rfl,m _ s' (zY3 _) t k⟩⟩
variable {a b c:Expr}{p p0 pos pos2:Pos}
theorem nN {N:TA}(U:X.calm=true)(hgl:Gl X "list")(A:X.mg "list"=none)(hg:Gl X "zip")(hm:X.mg "zip"=none)(ha:PA X [a,b,c] N)
  (g:starEach [.Call (.Name "zip" p) [a,b,c] [] pos2] X.env=[(false,eval (.Call (.Name "zip" p) [a,b,c] [] pos2) X.env)]:=by rfl)
  (T:starEach [a,b,c] X.env=(false,eval a X.env)::starEach [b,c] X.env:=by rfl) (hpl:(backTo pos2 (starEach [b,c] X.env)).any (·.1)=false:=by rfl):
  PE X (.Call (.Name "list" p0) [.Call (.Name "zip" p) [a,b,c] [] pos2] [] pos) (λσ H Q=>N σ H λvs H1=>∃(l1 l2 l3:Addr) (xs ys zs:List V),vs=[.ref l1,.ref l2,.ref l3]/\SqL X.K H1 l1 xs/\SqL X.K H1 l2 ys/\SqL X.K H1 l3 zs/\ys.length=xs.length/\zs.length=xs.length/\0<xs.length/\xs.length<=1000/\
   ∀D H' vs,H1 D=none->(∀a o,H1 a=some o->H' a=some o)->H' D=some (.lst vs)->(∃i,(∀a o,i a=some o->a≠D/\H' a=some o)/\Tri H1 i xs ys zs vs xs.length)->Q (.ref D) H'):=by
 intro pins s σ H Q I h;refine Call_ (yU I hgl A boot_list (z32 ?_ g rfl));rw[g];show wpAny _ _ (spliced ((false,eval _ X.env)::backTo pos [])) _ _ s;refine Calls.spliced_cons ?_;refine Call_ (yU I hg hm boot_zip (z32 (thn (ha pos2 pins s σ H _ I h) λus s1 B=>?_) T hpl));obtain⟨vs,H1,f,d,q1⟩:=B;obtain⟨l1,l2,l3,xs,ys,zs,e,r,l,k,W,e3,h0,O,q⟩:=q1;subst e;obtain⟨u,v,w,rfl,ru,S,F⟩:∃u v w,us=[u,v,w]/\RelV (.ref l1) u/\RelV (.ref l2) v/\RelV (.ref l3) w:=by
  cases d with
  |cons a d=>
   cases d with
   |cons b d=>
    cases d with
    |cons c d=>
     cases d;exact⟨_,_,_,rfl,a,b,c⟩
 cases(show u=Value.ref l1 from ru);cases(show v=Value.ref l2 from S);cases(show w=Value.ref l3 from F);obtain⟨J,a1,p1,a5⟩:=f.list r;obtain⟨M,a3,p2,a0⟩:=f.list l;obtain⟨R,a2,p3,a4⟩:=f.list k;refine jv p1.isList p2.isList p3.isList λh' Z sz hk=>?_;have y:l1<s1.heap.objs.size:=by obtain⟨o,e,_⟩:=p1.isList;exact zY6 e
 have G:l2<s1.heap.objs.size:=by obtain⟨o,e,_⟩:=p2.isList;exact zY6 e
 have x:l3<s1.heap.objs.size:=by obtain⟨o,e,_⟩:=p3.isList;exact zY6 e
 have le:∀b∈z3 s1.heap.objs.size,s1.heap.objs.size<=b:=λb hb=>by
  simp only[z3,zY2,zZ8,z33]at hb;have key:∀n b:Nat,(b=n\/b=n+1\/b=n+2\/b=n+3\/b=n+4\/b=n+5)->n<=b:=λn b h=>by lia
  exact key _ _ hb
 have L:Inv X pins σ H1 {s1 with heap:=h',toks:=s1.toks}:=f.kept λb o e=>hk b o e;refine z31 (Q:=_) (show wpAny _ _ (spliced []) (λvs m=>vs=[]/\m={s1 with heap:=h'}) X.xe {s1 with heap:=h'}from zY4 ⟨rfl,rfl⟩) (λvs s2 hv=>?_) λ_ _ z=>z;obtain⟨rfl,rfl⟩:=hv;refine sV (s:={s1 with heap:=h'}) (I.ok.hd U) y G x L Z (λb hb=>f.hok.fresh (le b hb)) (λb hb H' hn=>f.fpOk (le b hb) hn) r l k W e3 h0 O λD s' Y ze fD=>?_;obtain⟨H',acc,vs,e,I',st,hD,P,C,t⟩:=ze.ex;have E:H1 D=none:=L.hok.fresh Y;have j:∀a o,H' a=some o->a≠D/\upd H' D (.lst vs) a=some o:=λa o q=>by
  have n:a≠D:=λz=>by rw[z,P]at q;cases q
  exact⟨n,by rw[zc n];exact q⟩
 refine⟨.ref D,upd H' D (.lst vs),I'.adopt (fD H' P) ⟨?_,acc,e,C,hD⟩,rfl,q D _ vs E (λa o q=>(j a o (st a o q)).2) zh ⟨H',j,t⟩⟩;rw[t.1,z44];exact zP9 O
end
def zr6 (a b c:PyData):PyData:=.tuple [a,b,c]
def wQ :List PyData->List PyData->List PyData->List PyData
 |a::as,b::bs,c::cs=>zr6 a b c::wQ as bs cs
 |_,_,_=>[]
theorem uM :∀{as bs cs:List PyData},bs.length=as.length->cs.length=as.length->(wQ as bs cs).length=as.length
 |[],_,_,_,_=>rfl
 |a::as,b::bs,c::cs,d,e=>by rw[wQ,z00,z00,uM (by simpa using d) (by simpa using e)]
theorem uP :∀{as bs cs:List PyData}{j:Nat}{d:PyData},(wQ as bs cs)[j]?=some d->∃a b c,as[j]?=some a/\bs[j]?=some b/\cs[j]?=some c/\d=zr6 a b c
 |[],_,_,j,d,h=>by simp[wQ]at h
 |a::as,[],_,j,d,h=>by simp[wQ]at h
 |a::as,b::bs,[],j,d,h=>by simp[wQ]at h
 |a::as,b::bs,c::cs,0,d,h=>by simp[wQ]at h;exact⟨a,b,c,rfl,rfl,rfl,h.symm⟩
 |a::as,b::bs,c::cs,j+1,d,h=>by
  obtain⟨x,y,z,e1,f,g,e⟩:=uP (as:=as) (bs:=bs) (cs:=cs) (j:=j) (d:=d) (by simpa[wQ]using h);exact⟨x,y,z,by simpa using e1,by simpa using f,by simpa using g,e⟩
theorem iV {G:Hp}:∀{vs:List V}{ds:List PyData},vs.length=ds.length->(∀(j:Nat) d,ds[j]?=some d->∃v,vs[j]?=some v/\AV G v d)->AVs G vs ds
 |[],[],_,_=>.nil
 |v::vs,d::ds,b,h=>by
  obtain⟨c,e,a⟩:=h 0 d rfl;cases e;exact .cons a (iV (by simpa using b) λj d' hd=>h (j+1) d' (by simpa using hd))
section
variable {X:Cx}{α:Ev}{a b c:Expr}{p p0 pos pos2:Pos}
theorem nj {Q:List PyData->Prop}(P:X.calm=true)(hgl:Gl X "list")(r:X.mg "list"=none)(hg:Gl X "zip")(hm:X.mg "zip"=none)
  (h:EvA X α [a,b,c] λas=>∃ds l fs,as=[.dat (.list ds),.dat (.list l),.dat (.list fs)]/\l.length=ds.length/\fs.length=ds.length/\0<ds.length/\ds.length<=1000/\Q (wQ ds l fs))
  (n:starEach [.Call (.Name "zip" p) [a,b,c] [] pos2] X.env=[(false,eval (.Call (.Name "zip" p) [a,b,c] [] pos2) X.env)]:=by rfl)
  (M:starEach [a,b,c] X.env=(false,eval a X.env)::starEach [b,c] X.env:=by rfl) (hpl:(backTo pos2 (starEach [b,c] X.env)).any (·.1)=false:=by rfl):
  EvL X α (.Call (.Name "list" p0) [.Call (.Name "zip" p) [a,b,c] [] pos2] [] pos) Q:=λF σ H R m k=>by
 refine⟨_,nN P hgl r hg hm yt n M hpl,?_⟩;refine h F σ H _ m λas vs H1 q1 t1 k1 f=>?_;have m1:=m.kz k1 t1;obtain⟨ds,l,fs,rfl,l2,l3,l0,L,q⟩:=q1;cases f with
 |cons r1 f=>
  cases f with
  |cons I f=>
   cases f with
   |cons U f=>
    cases f;obtain⟨a1,xs,rfl,g1,E⟩:=AV.lst_inv r1;obtain⟨a2,ys,rfl,g2,w⟩:=AV.lst_inv I;obtain⟨a3,zs,rfl,g3,A⟩:=AV.lst_inv U;have g:=E.length;have T:=w.length;have y3:=A.length;refine⟨a1,a2,a3,xs,ys,zs,rfl,SqL.of (zb g1).2,SqL.of (zb g2).2,SqL.of (zb g3).2,(T.trans (l2.trans g.symm)),(y3.trans (l3.trans g.symm)),(zX9 l0 (zZ7 g.symm)),(zY8 (zZ7 g) L),λD H' vs hD st u tr=>?_⟩;obtain⟨S,N,i⟩:=tr;have C:zu H1 H':=λa o e=>st a o e;refine k _ _ H' q (t1.same C) (k1.trans (Kz.of_same C)) ⟨D,vs,rfl,?_,u,?_⟩
    ·cases z:H D with
     |none=>rfl
     |some o=>rw[k1 D o z (m.tp.nt (ow0 (m1.fresh hD)))]at hD;cases hD
    ·have s:zu (Gz F α σ H1) (sub (λx=>¬Ow F α σ x/\x≠D) H'):=zm λa o h e=>⟨⟨h,zk e hD⟩,st a o e⟩;refine iV (by rw[i.1,uM l2 l3];exact g) λj d hd=>?_;obtain⟨d1,d2,d3,e1,O,W,rfl⟩:=uP hd;have hj:j<xs.length:=by rw[g];exact(zY0.mp e1).1
     obtain⟨t,x,y,z,f1,f2,G,f4,J,Z⟩:=i.2 j hj;obtain⟨x',ex,V⟩:=E.get e1;obtain⟨y',B,K⟩:=w.get O;obtain⟨z',v,Y⟩:=A.get W;rw[f2]at ex;cases ex;rw[G]at B;cases B;rw[f4]at v;cases v;obtain⟨nt,ht⟩:=N t _ J;exact⟨_,f1,.tup (zt ⟨m1.fresh Z,nt⟩ ht) (.cons (V.same s) (.cons (K.same s) (.cons (Y.same s) .nil)))⟩
theorem kR {ns:List Int}{its:List Value}(h:Vals (ns.map V.int) its):∃ps:List (Int×Tok),its=ps.map (λp=>Value.int p.1 p.2)/\ps.map (·.1)=ns:=by
 induction ns generalizing its with
 |nil=>cases h;exact⟨[],rfl,rfl⟩
 |cons n ns d=>cases h with
  |cons h e=>
   obtain⟨ps,e1,f⟩:=d e;obtain⟨t,rfl⟩:=h;exact⟨(n,t)::ps,by rw[e1];rfl,by rw[<-f];rfl⟩
theorem su (ps:List (Int×Tok))(k:Nat):numAt ps.toArray k=(ps.map (·.1)).getD k 0:=by
 unfold numAt;rw[yb7,z08,zY7]
theorem ve (ps:List (Int×Tok)):∀k,k<=ps.length->preSum (numAt ps.toArray) k=((ps.map (·.1)).take k).sum
 |0,_=>by simp[preSum]
 |k+1,h=>by
  have hk:k<(ps.map (·.1)).length:=by rw[zX8];exact zX9 (z56 _) h
  rw[preSum,ve ps k (zY8 (zZ4 _ _) h),su,z43,zY1 hk,List.sum_append,z08,zY1 hk];simp
def Fits (ns:List Int):Prop:=∀k,k<=ns.length->-(2 ^ 62)<=(ns.take k).sum/\(ns.take k).sum<2 ^ 62
theorem eI (o:X.calm=true):xi X (.builtin "sum") (λxs H Q=>∃(l:Addr) (ns:List Int),xs=[.ref l]/\SqL X.K H l (ns.map V.int)/\(∀n∈ns,-(2 ^ 62)<=n/\n<2 ^ 62)/\Fits ns/\Q (.int ns.sum) H):=by
 intro pins s σ H xs us Q I r h;obtain⟨l,ns,rfl,i,hb,hf,q⟩:=h;obtain⟨u,rfl,v⟩:=Vals.one r;cases(show u=Value.ref l from v);obtain⟨its,m,p,hz⟩:=I.list i;obtain⟨ps,rfl,rfl⟩:=kR m;have t:s.heap.IsList l (intItems ps.toArray):=by
  have:=p.isList
  rwa [show intItems ps.toArray=(ps.map λp=>Value.int p.1 p.2).toArray by simp[intItems]]
 refine sum_intList (I.ok.hd o) t (λj k=>?_) λh' tk t' hk=>?_
 ·have d:j<ps.length:=by simpa using k
  have hk:j<(ps.map (·.1)).length:=by rw[zX8];exact d
  rw[ve ps (j+1) (d),su,z08,zY1 hk];have e:=hb _ (z92 hk);have g:=hf (j+1) (hk);refine⟨⟨?_,?_⟩,?_,?_⟩
  ·show -(2 ^ 63)<=(ps.map (·.1))[j];exact zy1 e.1
  ·show(ps.map (·.1))[j]<2 ^ 63;exact zs9 e.2
  ·exact zy1 g.1
  ·exact zs9 g.2
 ·rw[show preSum (numAt ps.toArray) ps.toArray.size=(ps.map (·.1)).sum by rw[zZ5,ve ps ps.length (zY3 _),<-zX8 (f:=(·.1)) (as:=ps),z40]];exact⟨.int _,H,I.kept (t':=tk) hk,⟨_,rfl⟩,q⟩
theorem zk6 {Q:PyData->Prop}{e:Expr}(i:X.calm=true)(hg:Gl X "sum")(hm:X.mg "sum"=none)(h:EvD X α e λx=>∃ns:List Int,x=.list (ns.map .int)/\(∀n∈ns,-(2 ^ 62)<=n/\n<2 ^ 62)/\Fits ns/\Q (.int ns.sum))(he:starEach [e] X.env=(false,eval e X.env)::starEach [] X.env:=by rfl):
  EvD X α (.Call (.Name "sum" p) [e] [] pos) Q:=by
 refine xF (eI i) hg hm boot_sum (zi (h.imp λx d=>?_) he) (he:=he);obtain⟨ns,e1,hb,hf,q⟩:=d;refine zq ?_;intro F σ H vs R m g k;subst e1;obtain⟨v,rfl,av⟩:=g.one;obtain⟨a,xs,rfl,f,j⟩:=av.lst_inv;cases j.ints;exact⟨a,ns,rfl,SqL.of (zb f).2,hb,hf,k _ _ H q m.tp Kz.refl (.int _)⟩
end
def wR :List Int->List Bool->List Int
 |z::zs,b::bs=>if b=true then wR zs bs else z::wR zs bs
 |_,_=>[]
theorem vB :∀{zs:List Int}{bs:List Bool}{z:Int},z∈wR zs bs->z∈zs
 |[],_,z,h=>by simp[wR]at h
 |y::zs,[],z,h=>by simp[wR]at h
 |y::zs,b::bs,z,h=>by
  rw[wR]at h;split at h
  ·exact zY5 _ (vB h)
  ·rcases zY2.mp h with e|h
   ·rw[e];exact zY9
   ·exact zY5 _ (vB h)
theorem qu :∀(zs:List Int) (bs:List Bool),(wR zs bs).length<=zs.length
 |[],_=>by simp[wR]
 |y::zs,[]=>by simp[wR]
 |y::zs,b::bs=>by
  rw[wR];have:=qu zs bs;split
  ·rw[z00];exact zY8 this (zZ4 _ _)
  ·rw[z00,z00];exact Nat.add_le_add this (zY3 _)
theorem sum_bound :∀{ns:List Int}{m:Int},0<=m->(∀n∈ns,0<=n/\n<=m)->0<=ns.sum/\ns.sum<=ns.length*m
 |[],m,_,_=>by simp
 |n::ns,m,h0,h=>by
  obtain⟨a,b⟩:=sum_bound h0 λx c=>h x (zY5 _ c);have:=h n zY9;rw[List.sum_cons,z00,Int.natCast_add,Int.add_mul]
  constructor
  ·exact Int.add_nonneg this.1 a
  ·simp;exact zU3 this.2 b
theorem kn {ns:List Int}(h:∀n∈ns,0<=n/\n<=1000000000000)(c:ns.length<=1000):Fits ns:=λk hk=>by
 obtain⟨a,b⟩:=sum_bound (ns:=ns.take k) (m:=1000000000000) (by decide) λn hn=>h n (yc8 hn);have:((ns.take k).length:Int)*1000000000000<=1000*1000000000000:=by
  apply Int.mul_le_mul_of_nonneg_right _ (by decide);rw[z46];exact zW2 c
 lia
def zC4 (p:Nat):PyData->PyData
 |.tuple [a,b,c]=>if p=1 then b else c
 |_=>.none
def tX :PyData->Bool
 |.tuple [_,_,.bool b]=>b
 |_=>false
theorem sI :∀{ds:List PyData}{zs:List Int}{bs:List Bool},zs.length=ds.length->bs.length=ds.length->((wQ ds (zs.map .int) (bs.map .bool)).filter λd=>!tX d).map (zC4 1)=(wR zs bs).map .int
 |[],[],[],_,_=>rfl
 |d::ds,z::zs,b::bs,c,e=>by
  have a:=sI (ds:=ds) (zs:=zs) (bs:=bs) (by simpa using c) (by simpa using e);rw[z02,z02,wQ,wR,yc6];cases b with
  |true=>simpa[tX,zr6]using a
  |false=>simp[tX,zr6,zC4];exact a
def bq (d:PyData):Prop:=d=.none\/∃many free:Nat,d=.tuple [.int many,.int free]/\0<free/\free<many/\many<64
section
variable {κ:Type}[DecidableEq κ]
def yM (kvs:List (κ×V))(k:κ):Option V:=(kvs.find? λa=>decide (a.1=k)).map (·.2)
def putK (kvs:List (κ×V))(k:κ)(v:V):List (κ×V):=
 if(kvs.any λa=>decide (a.1=k))=true then kvs.map (λa=>if a.1=k then(a.1,v)else a)else kvs++[(k,v)]
theorem yd {p:κ×V}{r:List (κ×V)}{k:κ}(e:p.1=k):yM (p::r) k=some p.2:=by simp[yM,z59,e]
theorem zU {p:κ×V}{r:List (κ×V)}{k:κ}(e:¬p.1=k):yM (p::r) k=yM r k:=by simp[yM,z59,e]
theorem vq (k:κ):∀kvs:List (κ×V),(kvs.any λa=>decide (a.1=k))=(yM kvs k).isSome
 |[]=>rfl
 |p::r=>by
  rw[z84];by_cases e:p.1=k
  ·simp only[yd e,z26 e,Bool.true_or,Option.isSome_some]
  ·rw[zU e,z06 e,yg1];exact vq k r
theorem my (k j:κ)(y:V):∀kvs:List (κ×V),yM (kvs.map λa=>if a.1=k then(a.1,y)else a) j=(yM kvs j).map λx=>if j=k then y else x
 |[]=>rfl
 |p::r=>by
  have b:=my k j y r;rw[z02];by_cases h:p.1=k
  ·rw[if_pos h];by_cases e:p.1=j
   ·rw[yd (p:=(p.1,y)) e,yd e,yh2,if_pos (e.symm.trans h)]
   ·rw[zU (p:=(p.1,y)) e,zU e,b]
  ·rw[if_neg h];by_cases e:p.1=j
   ·rw[yd (p:=p) e,yd e,yh2,if_neg (λz=>h (e.trans z))]
   ·rw[zU (p:=p) e,zU e,b]
theorem qC (k j:κ)(y:V):∀kvs:List (κ×V),yM kvs k=none->yM (kvs++[(k,y)]) j=if j=k then some y else yM kvs j
 |[],_=>by
  by_cases e:k=j
  ·rw[if_pos e.symm];exact yd (p:=(k,y)) e
  ·rw[if_neg (λz=>e z.symm)];exact zU (p:=(k,y)) e
 |p::r,hn=>by
  rw[yc7];have hk:¬p.1=k:=λz=>by rw[yd z]at hn;cases hn
  rw[zU hk]at hn;have a:=qC k j y r hn;by_cases e:p.1=j
  ·rw[yd e,yd e,if_neg (λz=>hk (e.trans z))]
  ·rw[zU e,zU e,a]
theorem dQ (kvs:List (κ×V))(k j:κ)(y:V):yM (putK kvs k y) j=if j=k then some y else yM kvs j:=by
 unfold putK;by_cases a:(kvs.any λb=>decide (b.1=k))=true
 ·rw[if_pos a,my];rw[vq]at a;by_cases e:j=k
  ·obtain⟨x,c⟩:=ye2.mp a;rw[if_pos e,e,c,yh2,if_pos rfl]
  ·rw[if_neg e];cases yM kvs j with
   |none=>rfl
   |some x=>rw[yh2,if_neg e]
 ·rw[if_neg a];refine qC k j y kvs ?_;rw[vq]at a;cases q:yM kvs k with
  |none=>rfl
  |some x=>rw[q]at a;exact(a rfl).elim
theorem xQ (kvs:List (κ×V))(k:κ)(v:V):(putK kvs k v).length<=kvs.length+1:=by
 unfold putK;split
 ·rw[zX8];exact zZ4 _ _
 ·rw[z04,z00,ye0];lia
theorem vK.isSome_eq {o:Option V}{u:Option Value}(r:vK o u):o.isSome=u.isSome:=by
 cases o with
 |none=>cases u with
  |none=>rfl
  |some _=>exact(show False from r).elim
 |some _=>cases u with
  |none=>exact(show False from r).elim
  |some _=>rfl
theorem KV.val {kvs:List (κ×V)}{vs:List (κ×Value)}(r:KV kvs vs)(k:κ):vK (yM kvs k) (valueAt vs k):=by
 unfold KV at r
 induction r with
 |nil=>exact True.intro
 |@cons p q ps qs h t ih=>
  obtain⟨c,d⟩:=h;by_cases e:p.1=k
  ·have a:q.1=k:=c.symm.trans e;have b:valueAt (q::qs) k=some q.2:=by simp[valueAt,z59,a]
   rw[yd e,b];exact d
  ·have a:¬q.1=k:=λz=>e (c.trans z);have b:valueAt (q::qs) k=valueAt qs k:=by simp[valueAt,z59,a]
   rw[zU e,b];exact ih
theorem KV.any {kvs:List (κ×V)}{vs:List (κ×Value)}(r:KV kvs vs)(k:κ):(kvs.any λa=>decide (a.1=k))=vs.any λa=>decide (a.1=k):=by
 unfold KV at r
 induction r with
 |nil=>rfl
 |cons h t b=>rw[z84,z84,b,h.1]
theorem KV.repl {kvs:List (κ×V)}{vs:List (κ×Value)}(r:KV kvs vs)(k:κ){y:V}{u:Value}(c:RelV y u):
  KV (kvs.map λa=>if a.1=k then(a.1,y)else a) (vs.map λa=>if a.1=k then(a.1,u)else a):=by
 unfold KV at r ⊢
 induction r with
 |nil=>exact .nil
 |@cons p q ps qs h t ih=>
  rw[z02,z02];refine .cons ?_ ih;obtain⟨b,d⟩:=h;by_cases e:p.1=k
  ·rw[if_pos e,if_pos (b.symm.trans e)];exact⟨b,c⟩
  ·rw[if_neg e,if_neg (λz=>e (b.trans z))];exact⟨b,d⟩
theorem KV.put {kvs:List (κ×V)}{vs:List (κ×Value)}(r:KV kvs vs)(k:κ){y:V}{u:Value}(a:RelV y u):KV (putK kvs k y) (stored vs k u):=by
 unfold putK stored;rw[r.any k];by_cases e:(vs.any λb=>decide (b.1=k))=true
 ·rw[if_pos e,if_pos e];exact r.repl k a
 ·rw[if_neg e,if_neg e];exact Paired.snoc r ⟨rfl,a⟩
theorem KV.length {kvs:List (κ×V)}{vs:List (κ×Value)}(r:KV kvs vs):kvs.length=vs.length:=Paired.length r
end
theorem pf {P:Program}{w:World}{k:Key}{u:Value}(r:RelV (kV k) u):(zJ P w).is k u=true:=by
 cases k with
 |inl i=>obtain⟨t,e⟩:=(show ∃t,u=Value.int i t from r);subst e;exact mf P w i t
 |inr x=>obtain⟨t,e⟩:=(show ∃t,u=Value.str x t from r);subst e;exact ni P w x t
theorem qP {P:Program}{w:World}:∀{ks:List Key}{us:List Value},Vals (ks.map kV) us->ItemsAre (zJ P w) ks us
 |[],_,r=>by rw[List.map_nil]at r;cases r;exact .nil
 |k::ks,_,r=>by
  rw[z02]at r;cases r with
  |cons h t=>exact .cons (pf h) (qP t)
abbrev KT (H:Hp):List (List Key×V)->List (List Key×Addr×Value)->Prop:=Paired λp q=>p.1=q.1/\H q.2.1=some (.tup (p.1.map kV))/\RelV p.2 q.2.2
theorem KT.val {H:Hp}{kvs:List (List Key×V)}{xs:List (List Key×Addr×Value)}(r:KT H kvs xs)(k:List Key):vK (yM kvs k) ((atKey xs k).map (·.2)):=by
 induction r with
 |nil=>exact True.intro
 |@cons p q ps qs h t ih=>
  obtain⟨c,_,d⟩:=h;by_cases e:p.1=k
  ·have a:q.1=k:=c.symm.trans e;have b:atKey (q::qs) k=some q.2:=by simp[atKey,z59,a]
   rw[yd e,b];exact d
  ·have a:¬q.1=k:=λz=>e (c.trans z);have b:atKey (q::qs) k=atKey qs k:=by simp[atKey,z59,a]
   rw[zU e,b];exact ih
theorem KT.repl {H:Hp}{kvs:List (List Key×V)}{xs:List (List Key×Addr×Value)}(r:KT H kvs xs)(k:List Key){y:V}{u:Value}(d:RelV y u):
  KT H (kvs.map λb=>if b.1=k then(b.1,y)else b) (xs.map (putAt k u)):=by
 induction r with
 |nil=>exact .nil
 |@cons p q ps qs h t ih=>
  rw[z02,z02];refine .cons ?_ ih;obtain⟨a,c,f⟩:=h;unfold putAt;by_cases e:p.1=k
  ·rw[if_pos e,if_pos (a.symm.trans e)];exact⟨a,c,d⟩
  ·rw[if_neg e,if_neg (λz=>e (a.trans z))];exact⟨a,c,f⟩
theorem KT.put {H:Hp}{kvs:List (List Key×V)}{xs:List (List Key×Addr×Value)}(r:KT H kvs xs)(k:List Key){b:Addr}{y:V}{u:Value}(hb:H b=some (.tup (k.map kV)))(a:RelV y u):
  KT H (putK kvs k y) (storedH xs k b u):=by
 have e:(kvs.any λc=>decide (c.1=k))=(atKey xs k).isSome:=by rw[vq,(r.val k).isSome_eq,Option.isSome_map]
 unfold putK storedH;rw[e];by_cases q:(atKey xs k).isSome=true
 ·rw[if_pos q,if_pos q];exact r.repl k a
 ·rw[if_neg q,if_neg q];exact Paired.snoc r ⟨rfl,hb,a⟩
theorem KT.keeps {H H':Hp}{kvs:List (List Key×V)}{xs:List (List Key×Addr×Value)}(r:KT H kvs xs)(a:∀b ys,H b=some (.tup ys)->H' b=some (.tup ys)):KT H' kvs xs:=
 Paired.mapP r λ_ _ z=>⟨z.1,a _ _ z.2.1,z.2.2⟩
section
variable {P:Program}{w:World}{H:Hp}{h:Heap}{a:Addr}
theorem zx7 {u:HO}(ok:HOk P w H h)(e:Rd H a u):zD P w H h a u:=e.ok ok
theorem qU {kvs:List (Key×V)}(ok:HOk P w H h)(e:Rd H a (.dK kvs)):kvs.length<=sizeLine/\(a == sysModules)=false/\∃vs,KV kvs vs/\h.DictOf (zJ P w) a vs:=
 show zD P w H h a (.dK kvs)from zx7 ok e
theorem zt9 {kvs:List (Key×V)}(ok:HOk P w H h)(e:H a=some (.dK kvs)):kvs.length<=sizeLine/\(a == sysModules)=false/\∃vs,KV kvs vs/\h.DictOf (zJ P w) a vs:=qU ok (.inl e)
theorem uJ {ks:List Key}(ok:HOk P w H h)(e:H a=some (.tup (ks.map kV))):(tupleKind (zJ P w)).is h ks a:=by
 obtain⟨_,its,r,o,c,d,n,b⟩:=(show zD P w H h a (.tup (ks.map kV))from ok a _ e);exact⟨o,its.toArray,n,c,d,b,by simpa using qP r⟩
theorem qO {kvs:List (List Key×V)}(ok:HOk P w H h)(e:Rd H a (.dT kvs)):kvs.length<=sizeLine/\(a == sysModules)=false/\
  ∃xs,KT H kvs xs/\h.DictOfH (tupleKind (zJ P w)) a xs:=by
 obtain⟨z,y,xs,r,o,f,k,c,i,g,d,j⟩:=(show zD P w H h a (.dT kvs)from zx7 ok e);refine⟨z,y,xs,r,o,f,k,c,i,g,d,λx b=>?_,j⟩;have all:∀{l:List (List Key×V)} {m:List (List Key×Addr×Value)},KT H l m->∀x∈m,(tupleKind (zJ P w)).is h x.1 x.2.1:=by
  intro l m q
  induction q with
  |nil=>intro x b;exact nomatch b
  |@cons p q ps qs hq t ih=>
   intro x b;rcases zY2.mp b with e|b
   ·subst e;exact uJ ok (by rw[<-hq.1];exact hq.2.1)
   ·exact ih x b
 exact all r x b
theorem zM6 {kvs:List (List Key×V)}(ok:HOk P w H h)(e:H a=some (.dT kvs)):kvs.length<=sizeLine/\(a == sysModules)=false/\
  ∃xs,KT H kvs xs/\h.DictOfH (tupleKind (zJ P w)) a xs:=qO ok (.inl e)
end
def nC (H:Hp)(a:Addr)(y:V)(r:Option V):Prop:=
 (∃kvs k,Rd H a (.dK kvs)/\y=kV k/\r=yM kvs k)\/∃kvs k b,Rd H a (.dT kvs)/\y=.ref b/\H b=some (.tup (k.map kV))/\r=yM kvs k
def ze7 (H:Hp)(a:Addr)(y v:V)(H':Hp):Prop:=
 (∃kvs k,H a=some (.dK kvs)/\y=kV k/\kvs.length<sizeLine/\H'=upd H a (.dK (putK kvs k v)))\/
 ∃kvs k b,H a=some (.dT kvs)/\y=.ref b/\H b=some (.tup (k.map kV))/\kvs.length<sizeLine/\H'=upd H a (.dT (putK kvs k v))
theorem ze7.k {H:Hp}{a:Addr}{kvs:List (Key×V)}{k:Key}{v:V}(e:H a=some (.dK kvs))(b:kvs.length<sizeLine):ze7 H a (kV k) v (upd H a (.dK (putK kvs k v))):=.inl ⟨kvs,k,e,rfl,b,rfl⟩
section
variable {X:Cx}{pins:List (Addr×Obj)}{σ:St}{H:Hp}{s:Shared}{a:Addr}{y v:V}{u r:Value}{o:Option V}{A:Around}{E:Value->Shared->Prop}
theorem Inv.big (I:Inv X pins σ H s):sysModules<s.heap.objs.size:=by
 have h:mainGlobals<s.heap.objs.size:=(I.mod.glob.keeps I.bk).lt;exact Nat.lt_trans (by decide) h
theorem gW {Q:Value->Shared->Prop}(n:A.units+1<cLine)(I:Inv X pins σ H s)(g:nC H a y (some v))(j:RelV y u)(h:∀d s',Inv X pins σ H s'->RelV v d->Q d s'):
  wpAny (model X.prog X.w) A (getItem (.ref a) u) Q E s:=by
 rcases g with⟨kvs,k,e,i,l⟩|⟨kvs,k,b,e,i,q,l⟩
 ·subst i;obtain⟨z,hd,vs,rel,dd⟩:=qU I.hok e;obtain⟨d,hw,c⟩:=vK.some_of (v:=v) (o:=valueAt vs k) (by rw[l];exact rel.val k);exact wpAny_getItem_of (pf j) dd.mapOf hw (h d _ (I.tok _) c)
 ·subst i;cases(show u=Value.ref b from j);obtain⟨z,hd,xs,rel,dd⟩:=qO I.hok e;obtain⟨d,hw,c⟩:=vK.some_of (v:=v) (o:=(atKey xs k).map (·.2)) (by rw[l];exact rel.val k);obtain⟨p,m,f⟩:=zZ3.mp hw;refine wpAny_getItem_heap (ye5 n) (uJ I.hok q) dd m ?_;rw[f];exact h d _ (I.tok _) c
theorem zV9 {Q:Value->Shared->Prop}(f:A.units+1<cLine)(I:Inv X pins σ H s)(g:nC H a y o)(d:RelV y u)(h:∀s',Inv X pins σ H s'->Q (.bool o.isSome) s'):
  wpAny (model X.prog X.w) A (compareOp .In u (.ref a)) Q E s:=by
 rcases g with⟨kvs,k,e,c,l⟩|⟨kvs,k,b,e,c,i,l⟩
 ·subst c;obtain⟨z,hd,vs,rel,dd⟩:=qU I.hok e;refine wpAny_in_of (pf d) hd dd.mapOf ?_;rw[<-(rel.val k).isSome_eq,<-l];exact h _ (I.tok _)
 ·subst c;cases(show u=Value.ref b from d);obtain⟨z,hd,xs,rel,dd⟩:=qO I.hok e;refine wpAny_in_heap (ye5 f) (uJ I.hok i) hd dd ?_;have q:=(rel.val k).isSome_eq;rw[Option.isSome_map]at q;rw[<-q,<-l];exact h _ (I.tok _)
theorem zk5 {Q:Value->Shared->Prop}(f:A.units+1<cLine)(I:Inv X pins σ H s)(g:nC H a y o)(d:RelV y u)(h:∀s',Inv X pins σ H s'->Q (.bool (!o.isSome)) s'):
  wpAny (model X.prog X.w) A (compareOp .NotIn u (.ref a)) Q E s:=by
 rcases g with⟨kvs,k,e,c,l⟩|⟨kvs,k,b,e,c,i,l⟩
 ·subst c;obtain⟨z,hd,vs,rel,dd⟩:=qU I.hok e;refine wpAny_notIn_of (pf d) hd dd.mapOf ?_;rw[<-(rel.val k).isSome_eq,<-l];exact h _ (I.tok _)
 ·subst c;cases(show u=Value.ref b from d);obtain⟨z,hd,xs,rel,dd⟩:=qO I.hok e;refine wpAny_notIn_heap (ye5 f) (uJ I.hok i) hd dd ?_;have q:=(rel.val k).isSome_eq;rw[Option.isSome_map]at q;rw[<-q,<-l];exact h _ (I.tok _)
theorem oK {h':Heap}{t':Nat}{ob:HO}(I:Inv X pins σ H s)(d:Mut (H a))(c:Heap.SameBut a s.heap h')(he:∃q,h'.get? a=some q)(new:zD X.prog X.w (upd H a ob) h' a ob):
  Inv X pins σ (upd H a ob) {s with heap:=h',toks:=t'}:=
 I.write (x:=a) (e:=a) d (.inl rfl) (λb q hb z=>(c.2 b hb).trans z) he new
theorem de {P:Program}{w:World}{H':Hp}{h':Heap}{kvs:List (Key×V)}{vs:List (Key×Value)}(z:kvs.length<=sizeLine)(hd:(a == sysModules)=false)(rel:KV kvs vs)(dd:h'.DictOf (zJ P w) a vs):
  zD P w H' h' a (.dK kvs):=⟨z,hd,vs,rel,dd⟩
theorem fL {H':Hp}{Q:Unit->Shared->Prop}(J:A.units+1<cLine)(I:Inv X pins σ H s)(g:ze7 H a y v H')(t:RelV y u)(n:RelV v r)(h:∀s',Inv X pins σ H' s'->Q () s'):
  wpAny (model X.prog X.w) A (setItem (.ref a) u r) Q E s:=by
 rcases g with⟨kvs,k,e,m,l,i⟩|⟨kvs,k,b,e,m,x,l,i⟩
 ·subst m i;obtain⟨z,hd,vs,rel,dd⟩:=zt9 I.hok e;have hz:vs.length<=sizeLine:=by rw[<-rel.length];exact z
  have j:(putK kvs k v).length<=sizeLine:=by have:=xQ kvs k v;exact zY8 this l
  refine wpAny_setItem_pairs (hsz:=hz) (pf t) dd λh' d f=>h _ ?_;have he:∃q,h'.get? a=some q:=let⟨q,_,_,hq,_⟩:=d;⟨q,hq⟩;exact oK I (by rw[e];exact True.intro) f he (de j hd (rel.put k n) d)
 ·subst m i;cases(show u=Value.ref b from t);obtain⟨z,hd,xs,rel,dd⟩:=zM6 I.hok e;have hz:xs.length<=sizeLine:=by rw[<-Paired.length rel];exact z
  have j:(putK kvs k v).length<=sizeLine:=by have:=xQ kvs k v;exact zY8 this l
  refine wpAny_setItem_heap (hsz:=hz) (ye5 J) (uJ I.hok x) dd λh' d f=>h _ ?_;obtain⟨q,C,B,hq,K,D,F,_,G⟩:=d;refine oK I (by rw[e];exact True.intro) f ⟨q,hq⟩ ⟨j,hd,_,(rel.put k x n).keeps λc ys p=>?_,q,C,B,hq,K,D,F,G⟩;rw[zc (zK2 p e (λz=>nomatch z))];exact p
end
section
variable {X:Cx}{pins:List (Addr×Obj)}{σ:St}{H:Hp}{s:Shared}{a:Addr}{kvs:List (Key×V)}{k:Key}{u:Value}{A:Around}{E:Value->Shared->Prop}
end
theorem mQ {X:Cx}{pins:List (Addr×Obj)}{σ:St}{H:Hp}{s:Shared}{a:Addr}{y:V}{o:Option V}(I:Inv X pins σ H s)(g:nC H a y o):s.TypeIs (.ref a) "dict":=by
 rcases g with⟨kvs,k,e,_,_⟩|⟨kvs,k,b,e,_,_,_⟩
 ·obtain⟨_,_,vs,_,dd⟩:=qU I.hok e;exact dd.typeIs
 ·obtain⟨_,_,xs,_,dd⟩:=qO I.hok e;exact dd.typeIs
def zM2 (c ty d:TE):TS:=λD σ H=>d σ H λv H1=>c σ H1 λx e=>ty σ e λy H3=>∃a b,x=.ref a/\ze7 H3 a y v b/\D.nx σ b
section
variable {X:Cx}{o i e value:Expr}{pos pos' tpos:Pos}{td ty tv:TE}
theorem zo6 (B:X.A.units+1<cLine)(b:PE X o td)(hi:PE X i ty)(C:PE X value tv)(f:swapsWith value (some (.Subscript o i pos')) pos.line X.env=pure false):
  PS X (.Assign [.Subscript o i pos'] value pos) (zM2 td ty tv):=by
 intro pins s σ H D I h;refine wpAny_Assign_Subscript (thn (C pins s σ H _ I h) λr s1 ⟨v,H1,n,d,w⟩=>thn (b pins s1 σ H1 _ n w) λu s2 ⟨x,q,t,j,z⟩=>thn (hi pins s2 σ q _ t z) λE s3 ⟨y,H3,l,p,a,c,ex,g,k⟩=>?_) f;subst ex;obtain rfl:u=Value.ref a:=j;exact fL B l g p d λs4 m=>⟨σ,c,m,k⟩
end
theorem za2 {P:Program}{w:World}{H:Hp}(h:Heap)(hb:sysModules<h.objs.size):zD P w H (h.push {cls:=.type "dict",data:=.dict #[]}) h.objs.size (.dK []):=
 ⟨zZ6 _,z79.mpr (z23 (z01 hb)),[],.nil,Heap.DictOf.new h⟩
section
variable {X:Cx}{pos:Pos}
end
def kU :List (TE×TE)->St->Hp->(List (V×V)->Hp->Prop)->Prop
 |[],_,H,Q=>Q [] H
 |(tk,tv)::r,σ,H,Q=>tk σ H λx H1=>tv σ H1 λy a=>kU r σ a λps H3=>Q ((x,y)::ps) H3
abbrev VV :List (V×V)->List (Value×Value)->Prop:=Paired λp q=>RelV p.1 q.1/\RelV p.2 q.2
def PPs (X:Cx)(pos:Pos)(keys:List (Option Expr))(values:List Expr)(a:List (TE×TE)):Prop:=
 ∀(pins:List (Addr×Obj)) (s:Shared) (σ:St) (H:Hp) (Q:List (V×V)->Hp->Prop),Inv X pins σ H s->kU a σ H Q->
  wpAny (model X.prog X.w) X.A (evalPairs (pairTrees keys values X.env pos)) (λvs s'=>∃ps H',Inv X pins σ H' s'/\VV ps vs/\Q ps H') X.xe s
theorem zf6 {X:Cx}{pos:Pos}:PPs X pos [] [] []:=λpins s σ H Q I h=>pairTrees_nil_walk ⟨[],H,I,.nil,h⟩
theorem ze3 {X:Cx}{pos:Pos}{k v:Expr}{ks:List (Option Expr)}{vs:List Expr}{tk b:TE}{a:List (TE×TE)}(hk:PE X k tk)(n:PE X v b)(hr:PPs X pos ks vs a):
  PPs X pos (some k::ks) (v::vs) ((tk,b)::a):=λpins s σ H Q I h=>
 pairTrees_cons_walk (thn (hk pins s σ H _ I h) λu s1 ⟨x,H1,f,c,l⟩=>thn (n pins s1 σ H1 _ f l) λo s2 ⟨y,i,j,g,m⟩=>
  thn (hr pins s2 σ i _ j m) λws s3 ⟨ps,H3,e,rel,d⟩=>⟨(x,y)::ps,H3,e,.cons ⟨c,g⟩ rel,d⟩)
def tj (kvs more:List (Key×V)):List (Key×V):=more.foldl (λacc a=>putK acc a.1 a.2) kvs
theorem KV.merge :∀{more:List (Key×V)}{rs:List (Key×Value)}{kvs:List (Key×V)}{vs:List (Key×Value)},KV more rs->KV kvs vs->KV (tj kvs more) (merged vs rs):=by
 intro more rs kvs vs r;unfold KV at r
 induction r generalizing kvs vs with
 |nil=>intro q;exact q
 |@cons p q ps qs h t ih=>
  intro a;have e:KV (putK kvs p.1 p.2) (stored vs q.1 q.2):=by
   have:=a.put p.1 h.2;rw[<-h.1];exact this
  exact ih e
theorem vO :∀(more kvs:List (Key×V)),(tj kvs more).length<=kvs.length+more.length
 |[],kvs=>by show kvs.length<=kvs.length+0;exact zZ4 _ _
 |p::r,kvs=>by
  have b:=vO r (putK kvs p.1 p.2);have a:=xQ kvs p.1 p.2;show(tj (putK kvs p.1 p.2) r).length<=_;rw[z00];exact zP4 b a
theorem rD {P:Program}{w:World}:∀{kvs:List (Key×V)}{ws:List (Value×Value)},VV (kvs.map λd=>(kV d.1,d.2)) ws->∃rs,Carries (zJ P w) ws rs/\KV kvs rs
 |[],_,r=>by rw[List.map_nil]at r;cases r;exact⟨[],True.intro,.nil⟩
 |p::kvs,_,r=>by
  rw[z02]at r;cases r with
  |@cons a b as bs h t=>
   obtain⟨rs,c,q⟩:=rD (P:=P) (w:=w) t;obtain⟨f,e⟩:=b;exact⟨(p.1,e)::rs,⟨pf h.1,rfl,c⟩,.cons ⟨rfl,h.2⟩ q⟩
def zO9 (a:List (TE×TE)):TE:=λσ H Q=>∀p,H p=none->kU a σ (upd H p (.dK [])) λps b=>b p=some (.dK [])/\∃kvs:List (Key×V),ps=kvs.map (λc=>(kV c.1,c.2))/\kvs.length<=15/\Q (.ref p) (upd b p (.dK (tj [] kvs)))
theorem zi8 {X:Cx}{pos:Pos}{keys:List (Option Expr)}{values:List Expr}{d:List (TE×TE)}(h:PPs X pos keys values d)(b:keys.all (·.isSome)=true)(n:keys.length=values.length)(h0:keys≠[])
  (g:keys.length<=15):PE X (.Dict keys values pos) (zO9 d):=by
 intro pins s σ H Q I q;have hn:=I.hok.fresh (zY3 s.heap.objs.size);have p:=I.laid (a:=s.heap.objs.size) (o:=.dK []) (h':=s.heap.push {cls:=.type "dict",data:=.dict #[]}) (t':=s.toks) (λ_ _ q=>zX7 _ q) (zY3 _) (za2 s.heap I.big);refine wpAny_Dict_walk (knd:=zJ X.prog X.w) b n h0 g (thn (h pins _ σ _ _ p (q _ hn)) λws s2 i=>?_);obtain⟨ps,x,j,rel,e,kvs,v,y,r⟩:=i;subst v;obtain⟨rs,c,m⟩:=rD (P:=X.prog) (w:=X.w) rel;obtain⟨z,hd,t,u,dd⟩:=zt9 j.hok e;cases u;refine⟨rs,c,dd,λh' f l=>⟨.ref s.heap.objs.size,_,?_,rfl,r⟩⟩;have hz:(tj [] kvs).length<=sizeLine:=by
  have k:=vO kvs [];rw[ye0]at k;rw[z44];lia
 have he:∃q,h'.get? s.heap.objs.size=some q:=let⟨q,_,_,hq,_⟩:=f;⟨q,hq⟩;exact oK j (by rw[e];exact True.intro) l he (de hz hd (m.merge .nil) f)
def IsD (H:Hp)(a:Addr):Prop:=(∃kvs,Rd H a (.dK kvs))\/∃kvs,Rd H a (.dT kvs)
theorem zB6 {X:Cx}{pins:List (Addr×Obj)}{σ:St}{H:Hp}{s:Shared}{a:Addr}(I:Inv X pins σ H s)(d:IsD H a):
  s.TypeIs (.ref a) "dict"/\(∀b,Value.ref a=.ref b->∃ob,s.heap.get? b=some ob/\ob.dict=none)/\(a == sysModules)=false:=by
 rcases d with⟨kvs,e⟩|⟨kvs,e⟩
 ·obtain⟨_,hd,vs,_,dd⟩:=qU I.hok e;refine⟨dd.typeIs,λb q=>?_,hd⟩;cases q;obtain⟨ob,_,_,c,f,_⟩:=dd;exact⟨ob,c,f.2.1⟩
 ·obtain⟨_,hd,xs,_,dd⟩:=qO I.hok e;refine⟨dd.typeIs,λb q=>?_,hd⟩;cases q;obtain⟨ob,_,_,c,f,_⟩:=dd;exact⟨ob,c,f.2.1⟩
section
variable {X:Cx}{pins:List (Addr×Obj)}{σ:St}{H:Hp}{s:Shared}{a:Addr}{y d:V}{u r:Value}{o:Option V}{A:Around}{E:Value->Shared->Prop}
end
section
variable {X:Cx}{o e f:Expr}{apos cpos:Pos}{td ty tx:TE}
end
section
variable {X:Cx}{pins:List (Addr×Obj)}{σ:St}{H:Hp}{s:Shared}{a:Addr}{kvs:List (Key×V)}{A:Around}{E:Value->Shared->Prop}
end
section
variable {X:Cx}{pins:List (Addr×Obj)}{σ:St}{H:Hp}{s:Shared}{a:Addr}{y:V}{u:Value}{A:Around}{E:Value->Shared->Prop}
end
def kEq :PyData->Key->Bool
 |.int i,.inl j=>decide (i=j)
 |.str x,.inr y=>decide (x=y)
 |_,_=>false
theorem rG (k j:Key):kEq (yX k) j=decide (k=j):=by
 cases k<;>cases j<;>simp[kEq,yX]
def uo :List (PyData×PyData)->Key->Option PyData
 |[],_=>none
 |(p,d)::r,k=>if kEq p k=true then some d else uo r k
def putD (ds:List (PyData×PyData))(k:Key)(d:PyData):List (PyData×PyData):=
 if(uo ds k).isSome=true then ds.map (λp=>if kEq p.1 k=true then(p.1,d)else p)else ds++[(yX k,d)]
theorem AVk.get {H:Hp}:∀{kvs:List (Key×V)}{ds:List (PyData×PyData)}{k:Key}{d:PyData},AVk H kvs ds->uo ds k=some d->∃v,yM kvs k=some v/\AV H v d
 |_,_,k,d,.nil,e=>by cases e
 |_,_,k,d,.cons (k:=j) h r,e=>by
  unfold uo at e;rw[rG]at e;by_cases z:j=k
  ·rw[z26 z,if_pos rfl]at e;cases e;exact⟨_,yd z,h⟩
  ·rw[z06 z,if_neg (by decide)]at e;rw[zU z];exact AVk.get r e
theorem AVk.none {H:Hp}{kvs:List (Key×V)}{ds:List (PyData×PyData)}{k:Key}(h:AVk H kvs ds)(e:uo ds k=Option.none):yM kvs k=Option.none:=by
 induction h using AVk.ind with
 |nil=>rfl
 |@cons j _ _ _ _ h r ih=>
  unfold uo at e;rw[rG]at e;by_cases z:j=k
  ·rw[z26 z,if_pos rfl]at e;cases e
  ·rw[z06 z,if_neg (by decide)]at e;rw[zU z];exact ih e
theorem AVk.some_iff {H:Hp}{kvs:List (Key×V)}{ds:List (PyData×PyData)}(h:AVk H kvs ds)(k:Key):(yM kvs k).isSome=(uo ds k).isSome:=by
 cases e:uo ds k with
 |none=>rw[h.none e];rfl
 |some d=>
  obtain⟨v,a,_⟩:=h.get e;rw[a];rfl
theorem AVk.length {H:Hp}{kvs:List (Key×V)}{ds:List (PyData×PyData)}(h:AVk H kvs ds):kvs.length=ds.length:=h.ind (motive:=λxs ds _=>xs.length=ds.length) rfl λ_ _ z=>congrArg (·+1) z
theorem AVk.snoc {H:Hp}{k:Key}{v:V}{d:PyData}(a:AV H v d):∀{kvs:List (Key×V)}{ds:List (PyData×PyData)},AVk H kvs ds->AVk H (kvs++[(k,v)]) (ds++[(yX k,d)])
 |_,_,.nil=>.cons a .nil
 |_,_,.cons h r=>.cons h (AVk.snoc a r)
theorem AVk.repl {H:Hp}{k:Key}{v:V}{d:PyData}(a:AV H v d):∀{kvs:List (Key×V)}{ds:List (PyData×PyData)},AVk H kvs ds->AVk H (kvs.map λb=>if b.1=k then(b.1,v)else b) (ds.map λp=>if kEq p.1 k=true then(p.1,d)else p)
 |_,_,.nil=>.nil
 |_,_,.cons (k:=j) h r=>by
  rw[z02,z02];show AVk H ((if j=k then(j,v)else(j,_))::_) ((if kEq (yX j) k=true then(yX j,d)else(yX j,_))::_);rw[rG];by_cases z:j=k
  ·rw[if_pos z,z26 z,if_pos rfl];exact .cons a (AVk.repl a r)
  ·rw[if_neg z,z06 z,if_neg (by decide)];exact .cons h (AVk.repl a r)
theorem AVk.put {H:Hp}{kvs:List (Key×V)}{ds:List (PyData×PyData)}{k:Key}{v:V}{d:PyData}(h:AVk H kvs ds)(a:AV H v d):AVk H (putK kvs k v) (putD ds k d):=by
 unfold putK putD;rw[vq,h.some_iff];split
 ·exact h.repl a
 ·exact h.snoc a
theorem AVk.at {H:Hp}{kvs:List (Key×V)}{ds:List (PyData×PyData)}{i:Nat}{p:PyData×PyData}(h:AVk H kvs ds)(e:ds[i]?=some p):∃k v,kvs[i]?=some (k,v)/\p.1=yX k/\AV H v p.2:=by
 induction h using AVk.ind generalizing i with
 |nil=>simp at e
 |cons h _ a=>
  cases i with
  |zero=>exact z09 e▸⟨_,_,rfl,rfl,h⟩
  |succ i=>exact a (i:=i) e
theorem iT {H:Hp}(k:Key):AV H (kV k) (yX k):=by cases k with
 |inl i=>exact .int i
 |inr x=>exact .str x
theorem uy {H:Hp}{v:V}{k:Key}(h:AV H v (yX k)):v=kV k:=by
 cases k with
 |inl i=>exact h.int_inv
 |inr x=>exact h.str_inv
theorem AV.dk_inv {H:Hp}{v:V}{ds:List (PyData×PyData)}(h:AV H v (yT ds)):∃a o kvs,v=.ref a/\H a=some (.frz o (.dK kvs))/\AVk H kvs ds:=by
 generalize e:yT ds=d at h;cases h with
 |dk b c=>cases e;exact⟨_,_,_,rfl,b,c⟩
 |_=>cases e
theorem ff {H:Hp}{l:Addr}{o:Obj}{u:HO}(h:H l=some (.frz o u)):Plain H l:=by
 first
 |exact trivial
 |(intro v e;rw[h]at e;cases e;exact⟨(λz=>by cases z),λps z=>by cases z⟩)
section
variable {X:Cx}{pins:List (Addr×Obj)}{σ:St}{H:Hp}{s:Shared}{l:Addr}{kvs:List (Key×V)}
def zT7 (X:Cx)(l:Addr):Prop:=∀o u,X.H₀ l≠some (.frz o u)
theorem Inv.fz (I:Inv X pins σ H s)(h:H l=some (.dK kvs)):zT7 X l/\∃o,Inv X pins σ (upd H l (.frz o (.dK kvs))) s:=by
 refine⟨(λo u z=>by rw[I.base.frzs _ _ _ z]at h;cases h),?_⟩;obtain⟨z,y,vs,r,ob,a,d,e,c⟩:=(show zD X.prog X.w H s.heap l (.dK kvs)from I.hok l _ h);refine⟨ob,I.write (h':=s.heap) (t':=s.toks) (x:=l) (e:=l) (by rw[h];exact trivial) (.inl rfl) (λb u _ q=>q) ⟨ob,e⟩ ?_⟩;exact⟨e,z,y,vs,r,ob,a,d,e,c⟩
theorem Inv.unfz {o:Obj}(g:zT7 X l)(I:Inv X pins σ H s)(h:H l=some (.frz o (.dK kvs))):Inv X pins σ (upd H l (.dK kvs)) s:=by
 have ne:∀{b:Addr},H b=none->upd H l (.dK kvs) b=none:=λ{b} e=>by rw[zc λz=>by rw[z,h]at e;cases e];exact e
 refine⟨I.ok,I.os,I.bare,⟨I.base.keep,I.base.slot,λb ob q n a=>ne (I.base.free b ob q n a),I.base.there,λb xs q=>?_,λb ob u q=>?_,λb ps q=>?_⟩,I.loc,I.cell,ne I.free,λx c e=>ne (I.freeC x c e),λp f=>?_,λb u q=>?_,I.len⟩
 ·have:=I.base.tups b xs q;rw[zc λz=>by rw[z,h]at this;cases this];exact this
 ·rw[zc λz=>by rw[z]at q;exact g _ _ q];exact I.base.frzs b ob u q
 ·obtain⟨more,this⟩:=I.base.tbls b ps q;exact⟨more,by rw[zc λz=>by rw[z,h]at this;cases this];exact this⟩
 ·obtain⟨d,j,i⟩:=I.pin p f;exact⟨d,ne j,i⟩
 ·have st:∀{b:Addr} {u:HO},zD X.prog X.w H s.heap b u->zD X.prog X.w (upd H l (.dK kvs)) s.heap b u:=λ{b u} x=>x.stay (λ_ _ _ q=>q)
   (λc e=>by rw[zc λz=>by rw[z,h]at e;cases e];exact e) λc xs e=>by rw[zc λz=>by rw[z,h]at e;cases e];exact e
  by_cases z:b=l
  ·subst z;rw[zh]at q;cases q;obtain⟨_,w⟩:=(show zD X.prog X.w H s.heap b (.frz o (.dK kvs))from I.hok b _ h);exact st w
  ·rw[zc z]at q;exact st (I.hok b u q)
end
section
variable {X:Cx}{e:Expr}{sts:List Stmt}
theorem zM7 {t:TE}{l:Addr}{kvs:List (Key×V)}(h:PE X e t):PE X e (λσ H Q=>H l=some (.dK kvs)/\∀o,t σ (upd H l (.frz o (.dK kvs))) λv a=>a l=some (.frz o (.dK kvs))/\Q v (upd a l (.dK kvs))):=by
 intro pins s σ H Q I ⟨hl,q⟩;obtain⟨f,o,c⟩:=I.fz hl;refine thn (h pins s σ _ _ c (q o)) λu s1 b=>?_;obtain⟨v,a,d,r,e,g⟩:=b;exact⟨v,_,d.unfz f e,r,g⟩
theorem zz9 {t:TS}{l:Addr}{kvs:List (Key×V)}(h:PSs X sts t):PSs X sts (λD σ H=>H l=some (.dK kvs)/\∀o,t D σ (upd H l (.frz o (.dK kvs)))):=by
 intro pins s σ H D I ⟨hl,q⟩;obtain⟨b,o,a⟩:=I.fz hl;exact h pins s σ _ _ a (q o)
end
section
variable {X:Cx}{α:Ev}{e a b:Expr}{pos p:Pos}{Q:PyData->Prop}
theorem M.fzk {F:Fr}{σ:St}{H:Hp}{i:Nat}{ds:List (PyData×PyData)}{l:Addr}{kvs:List (Key×V)}{o:Obj}(m:M F α σ H)(hi:α[i]?=some (some (.dic ds)))(v:σ[i]?=some (some (.ref l)))(J:H l=some (.dK kvs)):
  M F (α.set i (some (.dat (yT ds)))) σ (upd H l (.frz o (.dK kvs))):=by
 obtain⟨l',G,D,K,P,C,Z⟩:=m.dic i ds hi;rw[v]at D;cases D;rw[J]at K;cases K;have nl:¬Ow F (α.set i (some (.dat (yT ds)))) σ l:=m.gave hi v rfl λc z=>by cases z;exact id
 have ol:Ow F α σ l:=.inr ⟨i,_,_,hi,v,rfl⟩;have I:zu (Gz F α σ H) (Gz F (α.set i (some (.dat (yT ds)))) σ (upd H l (.frz o (.dK kvs)))):=λx u e=>by
  obtain⟨S,T⟩:=zb (aw (b:=.dat (yT ds)) (i:=i) (λ_ _ f=>f) x u e);exact zt S (by rw[zc λz=>(zb e).1 (by rw[z];exact ol)];exact T)
 have E:Plain H l:=qf J;refine⟨by rw[z28];exact m.len,λj c s e1 h=>?_,λj B c d s t x e1 h U W f1 f2=>?_,λj r q e B c s x e1 h f=>?_,m.tp.updO C E,λy u e n=>?_,λy hy=>?_⟩
 ·rcases zz e1 with⟨rfl,z⟩|⟨w,g⟩
  ·cases z;rw[v]at h;cases h;exact⟨_,rfl,.dk (zt nl zh) (P.same I)⟩
  ·refine(m.ok j c s g h).stay I (λy u f e=>?_) rfl λr q L k=>⟨k.tp,k.o,k.ok.updO (λz=>C (k.o _ z)) E,λy u e n=>?_⟩
   ·obtain⟨O,R,_⟩:=m.ft g h f;refine⟨?_,O,R⟩;rw[zc λz=>w (m.dj i j _ c _ s l hi g v h rfl (by rw[<-z];exact f))];exact e
   ·rw[zc (zk e (m.xd j r q (by rw[<-L];exact g) i _ _ l hi v rfl))];exact k.k y u e n
 ·rcases zz e1 with⟨rfl,z⟩|⟨w,g⟩
  ·cases z;exact f1.elim
  ·rcases zz h with⟨rfl,z⟩|⟨N,A⟩
   ·cases z;exact f2.elim
   ·exact m.dj j B c d s t x g A U W f1 f2
 ·rcases zz e with⟨_,z⟩|⟨_,Y⟩
  ·cases z
  ·rcases zz e1 with⟨rfl,z⟩|⟨w,g⟩
   ·cases z;exact f.elim
   ·exact m.xd j r q Y B c s x g h f
 ·rw[zc (zk e Z)];exact m.keep y u e n
 ·rw[zc (λz=>C (by rw[<-z];exact hy))];exact m.oex y hy
theorem M.fzback {F:Fr}{σ:St}{H d:Hp}{i:Nat}{ds:List (PyData×PyData)}{l:Addr}{kvs:List (Key×V)}{o:Obj}(m:M F α σ H)(hi:α[i]?=some (some (.dic ds)))(B:σ[i]?=some (some (.ref l)))(D:H l=some (.dK kvs))
  (t:zA F d) (k:Kz F (upd H l (.frz o (.dK kvs))) d):d l=some (.frz o (.dK kvs))/\zA F (upd d l (.dK kvs))/\Kz F H (upd d l (.dK kvs))/\
   ∀x u,¬Ob u->Gz F (α.set i (some (.dat (yT ds)))) σ d x=some u->Gz F α σ (upd d l (.dK kvs)) x=some u:=by
 obtain⟨O,A,w,E,L,C,N⟩:=m.dic i ds hi;rw[B]at w;cases w;rw[D]at E;cases E;have g:d l=some (.frz o (.dK kvs)):=k _ _ zh (m.tp.nt C);have G:Plain d l:=ff g;refine⟨g,t.updO C G,λx u e n=>?_,λx u K e=>?_⟩
 ·by_cases z:x=l
  ·subst z;rw[D]at e;cases e;exact zh
  ·rw[zc z];exact k x u (by rw[zc z];exact e) n
 ·obtain⟨I,h⟩:=zb e;have nx:x≠l:=λz=>by rw[z,g]at h;cases h;exact K trivial
  refine zt (λq=>I ?_) (by rw[zc nx];exact h);rcases q with z|⟨j,c,s,r,v,f⟩
  ·exact .inl z
  ·by_cases y:i=j
   ·subst y;rw[hi]at r;cases r;rw[B]at v;cases v;have J:some (V.ref l)=some (.ref x):=f;cases J;exact absurd rfl nx
   ·exact .inr ⟨j,c,s,by rw[sA y];exact r,v,f⟩
theorem aj {Q:List PyData->Prop}(i:Nat){ds:List (PyData×PyData)}(hi:α[i]?=some (some (.dic ds)))(h:EvL X (α.set i (some (.dat (yT ds)))) e λd=>wm d=true/\Q d):EvL X α e Q:=λF σ H R m k=>by
 obtain⟨l,kvs,g,f,E,G,I⟩:=m.dic i ds hi;refine⟨_,zM7 (l:=l) (kvs:=kvs) zf,f,λo=>?_⟩;refine h F σ _ _ (m.fzk hi g f) λd v H' q t kz r=>?_;obtain⟨g1,g2,g3,B⟩:=m.fzback hi g f t kz;obtain⟨n,xs,e1,c,D,s⟩:=r;have nl:n≠l:=λz=>by rw[z,zh]at c;cases c
 rw[zc nl]at c;refine⟨g1,k d v _ q.2 g2 g3 ⟨n,xs,e1,c,by rw[zc nl];exact D,s.noL (λx u C z=>?_) q.1⟩⟩;obtain⟨j,y⟩:=zb z;obtain⟨w,A⟩:=zb (B x u C (zt j.1 y));exact zt ⟨w,j.2⟩ A
theorem zG9 (i:Nat){ds:List (PyData×PyData)}{c:List Stmt}{E:yi}(hi:α[i]?=some (some (.dic ds)))(h:SvS X (α.set i (some (.dat (yT ds)))) c E):SvS X α c E:=λF σ H D m r=>by
 obtain⟨l,kvs,f,d,j,g,k⟩:=m.dic i ds hi;exact⟨_,zz9 (l:=l) (kvs:=kvs) zB,d,λo=>h F σ _ D (m.fzk hi f d) r⟩
theorem zf4 (i:Nat){x:Str}{c:Expr}{ds:List (PyData×PyData)}{p1 p2:Pos}{rest:List Stmt}{E:yi}(B:X.A.units+1<cLine)(hi:α[i]?=some (some (.dic ds)))(h:EvD X α e λd=>EvD X α c λy=>∃k,y=yX k/\ds.length<1000/\SvS X (α.set i (some (.dic (putD ds k d)))) rest E)
  (I:X.N[i]?=some x:=by rfl) (C:Vis X.env.scope x:=by first|exact Or.inl rfl|exact Or.inr (Or.inl rfl)|exact Or.inr (Or.inr rfl)) (hd:(x == ("__debug__":Str))=false:=by decide) (g:(x == ("__classdict__":Str))=false:=by decide)
  (f:swapsWith e (some (.Subscript (.Name x p1) c p2)) pos.line X.env=pure false:=by rfl):
  SvS X α (.Assign [.Subscript (.Name x p1) c p2] e pos::rest) E:=λF σ H D m r=>by
 obtain⟨l,kvs,j,G,n,o,L⟩:=m.dic i ds hi;refine⟨_,zv (zo6 B (yB I C hd g) zf zf f) zB,?_⟩;refine h F σ H _ m λd v H1 w t1 k1 u=>?_;have m1:=m.kz k1 t1;refine⟨.ref l,j,?_⟩;refine w F σ H1 _ m1 λy J K z t2 k2 s=>?_;have m2:=m1.kz k2 t2;obtain⟨k,rfl,t,q⟩:=z;cases uy s;refine⟨l,_,rfl,ze7.k (k2 _ _ (k1 _ _ G (m.tp.nt o)) (m.tp.nt o)) (by rw[n.length];exact yb (z30 t)),?_⟩;exact q F σ _ D (m2.wrC hi j (.dk (((n.same (k1.gz m.tp)).same (k2.gz m1.tp)).put (u.same (k2.gz m1.tp))))) r
end
section
variable {X:Cx}{α:Ev}{e a b:Expr}{pos p:Pos}{Q:PyData->Prop}
theorem di (h:EvD X α a λy=>EvD X α b λd=>∃k,y=yX k/\Q (yT [(yX k,d)])):EvC X α (.Dict [some a] [b] pos) Q:=λF σ H R m r=>by
 refine⟨_,zi8 (ze3 zf zf zf6) rfl rfl (List.cons_ne_nil _ _) (by show 1<=15;decide),λl f=>?_⟩;have s0:zu H (upd H l (.dK [])):=zH f;have m0:=m.park (Kz.of_same s0) (m.tp.same s0) f zh (λ_ z=>by cases z);refine h _ σ _ _ m0 λy A H1 u t1 k1 s=>?_;have m1:=m0.kz k1 t1;refine u _ σ H1 _ m1 λd v i w t2 k2 j=>?_;obtain⟨k,rfl,q⟩:=w;cases uy s;have nl:¬Ow F α σ l:=m.fresh f;have c:NT F l:=m.tp.nt (ow0 nl);have g:i l=some (.dK []):=k2 _ _ (k1 _ _ zh c) c;have t:zA F i:=m.tp.re t2 rfl;refine⟨g,[(k,v)],rfl,by show 1<=15;decide,?_⟩;refine r _ _ _ q (t.updO (ow0 nl) (qf g)) (λx o e n=>?_) ⟨l,_,rfl,f,zh,?_⟩
 ·have nx:x≠l:=λz=>by rw[z,f]at e;cases e
  rw[zc nx];exact k2 _ _ (k1 _ _ (s0 _ _ e) n) n
 ·refine yE.dk (kvs:=tj [] [(k,v)]) ?_;refine AVk.cons (j.same (zm λx o h e=>?_)) .nil;have nx:x≠l:=λz=>h (.inl (.inr z));exact⟨⟨λz=>h (z.elim (λz=>.inl (.inl z)) .inr),nx⟩,by rw[zc nx];exact e⟩
end
def epO (o:Obj):Nat:=match o.data with
 |.dict _ a=>a
 |_=>0
theorem Inv.fzAt {X:Cx}{pins:List (Addr×Obj)}{σ:St}{H:Hp}{s:Shared}{a:Addr}{o:Obj}{kvs:List (Key×V)}(I:Inv X pins σ H s)(h:H a=some (.frz o (.dK kvs))):
  kvs.length<=sizeLine/\(a == sysModules)=false/\∃vs,KV kvs vs/\s.heap.DictAt (zJ X.prog X.w) a vs (epO o):=by
 obtain⟨b,z,y,vs,r,ob,g,j,e,f,c,d⟩:=(show zD X.prog X.w H s.heap a (.frz o (.dK kvs))from I.hok a _ h);rw[b]at e;cases e;have i:epO o=j:=by unfold epO;rw[c]
 rw[i];exact⟨z,y,vs,r,o,g,b,f,c,d⟩
theorem KV.at {kvs:List (Key×V)}{vs:List (Key×Value)}(r:KV kvs vs):∀{i:Nat}{k:Key}{v:V},kvs[i]?=some (k,v)->∃u,vs[i]?=some (k,u)/\RelV v u:=by
 unfold KV at r
 induction r with
 |nil=>intro i k v e;simp at e
 |@cons p q ps qs h t ih=>
  intro i k v e;cases i with
  |zero=>
   simp at e;subst e;refine⟨q.2,?_,h.2⟩;have a:k=q.1:=h.1;rw[a];rfl
  |succ i=>
   obtain⟨u,a,b⟩:=ih (i:=i) (by simpa using e);exact⟨u,by simpa using a,b⟩
theorem jy {P:Program}{w:World}{k:Key}{u:Value}(h:(zJ P w).is k u=true):RelV (kV k) u:=by
 rcases zN (show rY k u=true from h)with⟨i,t,rfl,rfl⟩|⟨x,t,rfl,rfl⟩
 ·exact⟨t,rfl⟩
 ·exact⟨t,rfl⟩
def Itd (a:Addr)(o:Obj)(kvs:List (Key×V)):It:=⟨λi H=>H a=some (.frz o (.dK kvs))/\i<kvs.length,λi H x H'=>H'=H/\∃k v,kvs[i]?=some (k,v)/\x=kV k,λi H=>H a=some (.frz o (.dK kvs))/\kvs.length<=i⟩
def zP6 (a:Addr)(o:Obj)(kvs:List (Key×V)):It:=⟨λi H=>H a=some (.frz o (.dK kvs))/\i<kvs.length,λi H x H'=>H'=H/\∃k v,kvs[i]?=some (k,v)/\x=v,λi H=>H a=some (.frz o (.dK kvs))/\kvs.length<=i⟩
theorem eh {P:Program}{w:World}{K:PySem.W.Frag}{tg:Expr}(a it:Addr)(ob:Obj)(kvs:List (Key×V)):Turn P w K tg (Itd a ob kvs) [it] it (λi h=>h.IsKeyIter it a i kvs.length (epO ob)) where
 mem:=by simp
 obj:=λi h st b hb=>by
  have e:b=it:=by simpa using hb
  subst e;obtain⟨o,e,c,d⟩:=st;exact⟨o,e,λv z=>by rw[d]at z;cases z⟩
 keep:=λi h h' st k=>st.at λo e=>k it (by simp) o e
 item:=by
  intro X m hw hK q i pins s σ H E I hf st hg;subst m hw hK;obtain⟨hq,hi⟩:=hg;obtain⟨_,_,vs,rel,dd⟩:=I.fzAt hq;have g:=rel.length;obtain⟨⟨k,v⟩,n⟩:∃p,kvs[i]?=some p:=⟨kvs[i],zY1 hi⟩;obtain⟨u,x,A⟩:=rel.at n;obtain⟨f0,f1,f2,j,f4,l⟩:=hf it (by simp);rw[g]at st ⊢;refine wpAny_pyNext_dict_item st dd x λkey h' hk f r=>?_;have t:Inv X pins σ H {s with heap:=h'}:=I.turned (t':=s.toks) (λb o hb e=>(r.2 b hb).trans e) f0 f1 j f4 l;obtain⟨o,e,c,d⟩:=id f;exact⟨key,rfl,nF (s:={s with heap:=h'}) e c d (by decide) ⟨kV k,H,t,jy hk,⟨rfl,k,v,n,rfl⟩,f,λb hb=>(hf b hb).1⟩⟩
 done:=by
  intro X m hw hK q i pins s σ H E I hf st hg;subst m hw hK;obtain⟨hq,hi⟩:=hg;obtain⟨_,_,vs,rel,dd⟩:=I.fzAt hq;have g:=rel.length;obtain⟨f0,f1,f2,j,f4,l⟩:=hf it (by simp);rw[g]at st;exact wpAny_pyNext_dict_end (I.ok.hd q) st dd (yb8 (zY8 (zZ7 g.symm) hi)) λh' y=>⟨rfl,I.turned (t':=s.toks) (λb o hb e=>y b o hb e) f0 f1 j f4 l⟩
 self:=λ_ _ _ _ _ st h=>wpAny_pyIter_keyiter st h
theorem gp {P:Program}{w:World}{K:PySem.W.Frag}{tg:Expr}(a it:Addr)(ob:Obj)(kvs:List (Key×V)):Turn P w K tg (zP6 a ob kvs) [it] it (λi h=>h.IsValIter it a i kvs.length (epO ob)) where
 mem:=by simp
 obj:=λi h st b hb=>by
  have e:b=it:=by simpa using hb
  subst e;obtain⟨o,e,c,d⟩:=st;exact⟨o,e,λv z=>by rw[d]at z;cases z⟩
 keep:=λi h h' st k=>st.at λo e=>k it (by simp) o e
 item:=by
  intro X m hw hK q i pins s σ H E I hf st hg;subst m hw hK;obtain⟨hq,hi⟩:=hg;obtain⟨_,_,vs,rel,dd⟩:=I.fzAt hq;have g:=rel.length;obtain⟨⟨k,v⟩,n⟩:∃p,kvs[i]?=some p:=⟨kvs[i],zY1 hi⟩;obtain⟨u,y,r⟩:=rel.at n;obtain⟨f0,f1,f2,j,f4,l⟩:=hf it (by simp);rw[g]at st ⊢;refine wpAny_pyNext_values_item st dd y λh' f t=>?_;have x:Inv X pins σ H {s with heap:=h'}:=I.turned (t':=s.toks) (λb o hb e=>(t.2 b hb).trans e) f0 f1 j f4 l;obtain⟨o,e,c,d⟩:=id f;exact⟨u,rfl,nF (s:={s with heap:=h'}) e c d (by decide) ⟨v,H,x,r,⟨rfl,k,v,n,rfl⟩,f,λb hb=>(hf b hb).1⟩⟩
 done:=by
  intro X m hw hK q i pins s σ H E I hf st hg;subst m hw hK;obtain⟨hq,hi⟩:=hg;obtain⟨_,_,vs,rel,dd⟩:=I.fzAt hq;have g:=rel.length;obtain⟨f0,f1,f2,j,f4,l⟩:=hf it (by simp);rw[g]at st;exact wpAny_pyNext_values_end (I.ok.hd q) st dd (yb8 (zY8 (zZ7 g.symm) hi)) λh' A=>⟨rfl,I.turned (t':=s.toks) (λb o hb e=>A b o hb e) f0 f1 j f4 l⟩
 self:=λ_ _ _ _ _ st h=>wpAny_pyIter_valiter st h
section
variable {X:Cx}{tg:Expr}
theorem zo9 {l:Expr}{f:TE}(k:PE X l f):PI X tg l (λσ H R=>f σ H λx H1=>∃a o kvs,x=.ref a/\H1 a=some (.frz o (.dK kvs))/\R (Itd a o kvs) H1):=by
 intro pins s σ H R I h;refine thn (k pins s σ H _ I h) λv s1 d=>?_;obtain⟨x,H1,c,g,i⟩:=d;obtain⟨a,o,kvs,rfl,hq,q⟩:=i;cases g;obtain⟨_,j,vs,rel,dd⟩:=c.fzAt hq;refine wpAny_pyIter_dict j dd ?_;refine⟨s1.heap.objs.size,[s1.heap.objs.size],_,_,H1,rfl,c.kept (t':=s1.toks) λb o e=>zX7 _ e,eh a _ o kvs,⟨_,zZ0 _ rfl,rfl,by rw[rel.length];rfl⟩,λb hb=>?_,q⟩;have e:b=s1.heap.objs.size:=by simpa using hb
 subst e;exact c.fpOk (zY3 _) (c.hok.fresh (zY3 _))
theorem zm5 {l:Expr}{k:TE}{apos c:Pos}(n:PE X l k)(f:attributeBase l "values" X.env (eval l X.env)=eval l X.env:=by rfl)(d:(apos.endLine == c.line)=true:=by rfl):
  PI X tg (.Call (.Attribute l "values" apos) [] [] c) (λσ H R=>k σ H λx H1=>∃a o kvs,x=.ref a/\H1 a=some (.frz o (.dK kvs))/\R (zP6 a o kvs) H1):=by
 intro pins s σ H R I h;refine wpAny_Call_method0_late f d (thn (n pins s σ H _ I h) λv s1 g=>?_);obtain⟨x,H1,i,p,r⟩:=g;obtain⟨a,o,kvs,rfl,hq,q⟩:=r;cases p;obtain⟨_,m,vs,rel,dd⟩:=i.fzAt hq;obtain⟨hT,hD,_⟩:=zB6 i (.inl ⟨kvs,.inr ⟨o,hq⟩⟩);refine⟨"dict","dict.values",PySem.F.plainAttrs_dict,PySem.F.slot_dict_values,PySem.F.type_dict_values,hT,hD,Calls.callWith_builtin rfl (PySem.evalArgs_none ?_)⟩;refine call_meetsIn PySem.F.slot_dict_values hT PySem.F.entry_dict_values (PySem.F.args_dict_values_1 _) (meets_dict_values (zJ X.prog X.w) a m) ⟨⟨vs,dd.dictOf⟩,?_⟩;have j:Inv X pins σ H1 {s1 with heap:=s1.heap.push {cls:=.type "dict_values",data:=.fields #[.ref a]}}:=i.kept (t':=s1.toks) λb o e=>zX7 _ e;refine wpAny_pyIter_values (v:=s1.heap.objs.size) ⟨_,zZ0 _ rfl,rfl,rfl⟩ (dd.push _) ?_;refine⟨(s1.heap.push {cls:=.type "dict_values",data:=.fields #[.ref a]}).objs.size,[(s1.heap.push {cls:=.type "dict_values",data:=.fields #[.ref a]}).objs.size],_,_,H1,rfl,j.kept (t':=s1.toks) λb o e=>zX7 _ e,gp a _ o kvs,⟨_,zZ0 _ rfl,rfl,by rw[rel.length];rfl⟩,λb hb=>?_,q⟩;have e:b=(s1.heap.push {cls:=.type "dict_values",data:=.fields #[.ref a]}).objs.size:=by simpa using hb
 subst e;exact j.fpOk (zY3 _) (j.hok.fresh (zY3 _))
end
section
variable {X:Cx}{α:Ev}{e a b tg:Expr}{pos p:Pos}{Q:List PyData->Prop}
theorem zj0 (h:EvD X α e λx=>∃ds,x=yT ds/\Q (ds.map (·.1))):EvI X α tg e Q:=λF σ H R m k=>by
 refine⟨_,zo9 zf,?_⟩;refine h F σ H _ m λx t H1 r t1 k1 n=>?_;obtain⟨ds,rfl,q⟩:=r;obtain⟨a,o,kvs,rfl,g1,g2⟩:=n.dk_inv;refine⟨a,o,kvs,rfl,(zb g1).2,k _ _ H1 q t1 k1 λi B z s=>⟨λd hd=>?_,λf=>?_⟩⟩
 ·rw[zY7,zZ3]at hd;obtain⟨pr,j,rfl⟩:=hd;obtain⟨u,v,c,l,A⟩:=g2.at j;refine⟨⟨(zb (s _ _ g1)).2,(zY0.mp c).1⟩,λx H3 y=>?_⟩;obtain⟨rfl,w,C,g,rfl⟩:=y;rw[c]at g;cases g;refine⟨zu.refl _,λ_=>?_⟩;rw[l];exact iT _
 ·rw[zX8]at f;exact⟨(zb (s _ _ g1)).2,by rw[g2.length];exact f⟩
theorem zm4 {apos c:Pos}(h:EvD X α e λx=>∃ds,x=yT ds/\Q (ds.map (·.2)))(g:attributeBase e "values" X.env (eval e X.env)=eval e X.env:=by rfl)(f:(apos.endLine == c.line)=true:=by rfl):
  EvI X α tg (.Call (.Attribute e "values" apos) [] [] c) Q:=λF σ H R m k=>by
 refine⟨_,zm5 zf g f,?_⟩;refine h F σ H _ m λx z H1 w t1 k1 t=>?_;obtain⟨ds,rfl,q⟩:=w;obtain⟨a,o,kvs,rfl,g1,g2⟩:=t.dk_inv;refine⟨a,o,kvs,rfl,(zb g1).2,k _ _ H1 q t1 k1 λi E D s=>⟨λd hd=>?_,λl=>?_⟩⟩
 ·rw[zY7,zZ3]at hd;obtain⟨pr,r,rfl⟩:=hd;obtain⟨A,v,j,C,u⟩:=g2.at r;refine⟨⟨(zb (s _ _ g1)).2,(zY0.mp j).1⟩,λx H3 y=>?_⟩;obtain⟨rfl,B,G,n,rfl⟩:=y;rw[j]at n;cases n;exact⟨zu.refl _,λ_=>u.same s⟩
 ·rw[zX8]at l;exact⟨(zb (s _ _ g1)).2,by rw[g2.length];exact l⟩
theorem rO (A:X.calm=true):xi X (.type "list") (λxs H Q=>∃a o kvs,xs=[.ref a]/\H a=some (.frz o (.dK kvs))/\∀l,H l=none->Q (.ref l) (upd H l (.lst (kvs.map λp=>kV p.1)))):=by
 intro pins s σ H xs us Q I r h;obtain⟨a,o,kvs,rfl,hq,q⟩:=h;obtain⟨u,rfl,B⟩:=vals1 r;cases B;obtain⟨hz,z,vs,rel,dd⟩:=I.fzAt hq;refine PySem.W.kdl_call (PySem.W.kdl_dict z) (I.ok.hd A) dd (by rw[<-rel.length];exact hz) λh' tk c c' kp e it=>?_;refine⟨.ref s.heap.objs.size,_,I.laid (t':=tk) kp (zY3 _) (show zD X.prog X.w _ h' _ (.lst (kvs.map λp=>kV p.1))from⟨by rw[zX8];exact hz,c.toList,c',?_,by simpa using e⟩),rfl,q _ (I.hok.fresh (zY3 _))⟩;have key:∀{as:List V} {bs:List Value},as.length=bs.length->(∀(j:Nat) x,as[j]?=some x->∃u,bs[j]?=some u/\RelV x u)->Vals as bs:=by
  intro as
  induction as with
  |nil=>intro bs d _;cases bs with|nil=>exact .nil|cons _ _=>simp at d
  |cons x as C=>
   intro bs d g;cases bs with
   |nil=>simp at d
   |cons y bs=>
    obtain⟨u,f,m⟩:=g 0 x rfl;simp at f;subst f;exact .cons m (C (by simpa using d) λj n i=>by simpa using g (j+1) n (by simpa using i))
 refine key (by rw[zX8,rel.length,yh8];exact it.1.symm) λj x i=>?_;rw[zY7,zZ3]at i;obtain⟨⟨k,v⟩,d,rfl⟩:=i;obtain⟨E,g,_⟩:=rel.at d;have t:j<c.size:=by rw[it.1];exact(zY0.mp g).1
 obtain⟨D,n,f,m⟩:=it.2 j c[j] (by simp[t]);rw[g]at f;cases f;exact⟨c[j],by simp[t],jy m⟩
theorem aV {H G:Hp}{kvs:List (Key×V)}{ds:List (PyData×PyData)}(h:AVk H kvs ds):AVs G (kvs.map λp=>kV p.1) (ds.map (·.1)):=by
 induction h using AVk.ind with
 |nil=>exact .nil
 |cons _ _ c=>exact .cons (iT _) c
theorem bO (g:X.calm=true)(hg:Gl X "list")(hm:X.mg "list"=none)(h:EvD X α e λx=>∃ds,x=yT ds/\Q (ds.map (·.1)))(he:starEach [e] X.env=(false,eval e X.env)::starEach [] X.env:=by rfl):
  EvL X α (.Call (.Name "list" p) [e] [] pos) Q:=λF σ H R m k=>by
 refine⟨_,wt (rO g) hg hm boot_list (zy zf zW he) (he:=he),?_⟩;refine h F σ H _ m λx r H1 d t1 k1 n=>?_;obtain⟨ds,rfl,q⟩:=d;have m1:=m.kz k1 t1;obtain⟨a,o,kvs,rfl,g1,g2⟩:=n.dk_inv;refine⟨a,o,kvs,rfl,(zb g1).2,λl i=>?_⟩;obtain⟨f,j,c⟩:=m1.lay i (aV (G:=Gz F α σ H1) g2);exact k _ _ _ q f (k1.trans j) (c.back m k1 t1)
end
mutual
def ltD :PyData->PyData->Option Bool
 |.int a,.int b=>some (decide (a<b))
 |.str a,.str b=>some (decide (a.cps.toList<b.cps.toList))
 |.tuple xs,.tuple ys=>kL xs ys
 |_,_=>none
def kL :List PyData->List PyData->Option Bool
 |[],[]=>some false
 |[],_::_=>some true
 |_::_,[]=>some false
 |x::xs,y::ys=>if PyData.eqv x y=true then kL xs ys else ltD x y
end
def zF0 (A:Around)(s:Shared)(x y:PyData):Prop:=∀(v u:Value) (as bs:List Addr) (r:Bool),Reads s.heap v x as->Reads s.heap u y bs->x.canLay0=true->y.canLay0=true->ltD x y=some r->
 ∀(prog:Program) (w:World) (E:Value->Shared->Prop) (Q:Value->Shared->Prop),Q (.bool r) s->wpAny (model prog w) A (richCompare .Lt v u) Q E s
section
open PySem.SeqAt
open PySem.AutoSeq1 (wpAny_loadPart')
open PySem.MeetsSeq PySem.MeetsSeq2 PySem.MeetsSeq3
theorem zG7 (l b:Addr)(items c:Array Value)(n U:Nat)(dd K:Option Addr)(sl J:Array (Option Value))(xs ys:List PyData)(z:Bool)(D:kL xs ys=some z)(hcx:PyData.canLayAll0 xs=true)(hcy:PyData.canLayAll0 ys=true):
  Meets (Builtin.«tuple.__lt__» ⟨[.ref l,.ref b],[]⟩)
   (λA R s=>s.heap.get? l=some {cls:=.type "tuple",dict:=dd,data:=.seq items n,slots:=sl}/\s.heap.get? b=some {cls:=.type "tuple",dict:=K,data:=.seq c U,slots:=J}/\
    (∃as bs,ReadsAll s.heap items.toList xs as/\ReadsAll s.heap c.toList ys bs)/\A.units+1+PyData.depthAll xs<cLine/\(∀x∈xs,∀y,zF0 A.in1 s x y)/\R (.ok (.ret (.bool z))) s):=
 .of_wp λprog w A R s h=>by
  obtain⟨H,g,d,tk,os⟩:=s;obtain⟨X,hb,⟨as,bs,N,P⟩,T,G,h⟩:=h;have f2:=AutoSeq1.sub_tuple_tuple;have S:items.size=xs.length:=by simpa using SeqAt.ReadsAll.length _ _ _ N
  have Y:c.size=ys.length:=by simpa using SeqAt.ReadsAll.length _ _ _ P
  wp_walk using yg8 X,yg8 hb,wpAny_forIn_list _ (λrest b s'=>b.1=none/\s'=⟨H,g,d,tk,os⟩/\∃(vs ws:List Value) (f i:List PyData) (r m:List Addr),rest=vs.zip ws/\
   ReadsAll H vs f r/\ReadsAll H ws i m/\f.length+c.size=i.length+items.size/\kL f i=some z/\PyData.canLayAll0 f=true/\PyData.canLayAll0 i=true/\(∀x∈f,x∈xs)) _
  case turn=>
   rintro⟨y,x⟩ rest b s' ⟨o,rfl,vs,ws,f,i,r,m,hz,O,I,hlen,k,t,F,j⟩;cases O with
   |nil=>rw[List.zip_nil_left]at hz;cases hz
   |@cons v vs' d0 ds0 a1 a2 p1 C=>
    cases I with
    |nil=>rw[List.zip_nil_right]at hz;cases hz
    |@cons u us' e0 es0 W V p2 q=>
     rw[List.zip_cons_cons]at hz;injection hz with L p;injection L with hy B;subst hy B;simp only[PyData.canLayAll0,z07]at t F;have hd:d0.depth<=PyData.depthAll xs:=by
      have hm:=j d0 zY9;clear G j h N D hcx S
      induction xs with
      |nil=>cases hm
      |cons a as Z=>
       simp only[PyData.depthAll];rcases zY2.mp hm with rfl|hm
       ·exact Nat.le_max_left _ _
       ·refine zY8 (Z ?_ hm) (Nat.le_max_right _ _);simp only[PyData.depthAll]at T;have:=Nat.le_max_right a.depth (PyData.depthAll as);exact zv2 T
     have hm:min d0.depth e0.depth<=d0.depth:=Nat.min_le_left _ _;have he:=SeqAt.eqAt_reads d0 e0 A.in1 ⟨H,g,d,tk,os⟩ _ _ _ _ p1 p2 t.1 F.1 (by show A.units+1+min d0.depth e0.depth<cLine;lia);simp only[z00]at hlen;unfold kL at k;refine zX6 (he prog w _ _ ?_);cases e:PyData.eqv d0 e0 with
     |true=>
      rw[e,if_pos rfl]at k
      wp_walk
      exact⟨rfl,rfl,_,_,_,_,_,_,p,C,q,(zN3 hlen),k,t.2,F.2,λx B=>j x (zY5 _ B)⟩
     |false=>
      rw[e,if_neg (by decide)]at k;have M:=λE Q hq=>G d0 (j d0 zY9) e0 _ _ _ _ z p1 p2 t.1 F.1 k prog w E Q hq
      wp_walk using M
      exact⟨_,rfl,by simpa using h⟩
  case fin=>
   rintro⟨W,V⟩ s' ⟨o,rfl,vs,ws,f,i,r,m,hz,O,I,hlen,k,t,F,j⟩;simp only at o;subst o;have hv:z=decide (items.size<c.size):=by
    cases O with
    |nil=>
     cases I with
     |nil=>
      cases k;simp only[ye0]at hlen;exact(z06 (zL0 hlen)).symm
     |cons p2 q=>
      cases k;simp only[ye0,z00]at hlen;exact(z26 (zM4 hlen)).symm
    |cons p1 C=>
     cases I with
     |nil=>
      cases k;simp only[ye0,z00]at hlen;exact(z06 (zO7 hlen)).symm
     |cons p2 q=>
      rw[List.zip_cons_cons]at hz;cases hz
   rw[hv]at h
   wp_walk
   exact⟨_,rfl,by simpa[Builtin.Tuple.tupleCompareSizes]using h⟩
  case h=>
   exact⟨rfl,rfl,items.toList,c.toList,xs,ys,as,bs,rfl,N,P,(zN9 S Y),D,hcx,hcy,λx B=>B⟩
end
mutual
theorem qF :∀(d:PyData) (e:PyData) (A:Around) (s:Shared),A.units+d.depth<cLine->zF0 A s d e
 |.int a,e,A,s,g=>λv u as bs r f c _ _ h prog w E Q q=>by
  cases e with
  |int b=>
   cases h;cases f;cases c;exact(PyProof.Rows.lt_int q:wpAny (model prog w) A (compareOp .Lt _ _) Q E s)
  |_=>cases h
 |.str a,e,A,s,g=>λv u as bs r f c _ _ h prog w E Q q=>by
  cases e with
  |str b=>
   cases h;cases f;cases c;exact(lt_str q:wpAny (model prog w) A (compareOp .Lt _ _) Q E s)
  |_=>cases h
 |.tuple xs,e,A,s,g=>λv u as bs r f c m n h prog w E Q q=>by
  cases e with
  |tuple ys=>
   cases f with
   |@tuple a1 o1 vs n1 _ _ g1 g2 g3 g4=>
    cases c with
    |@tuple a2 o2 ws n2 _ _ k1 k2 k3 k4=>
     obtain⟨cls,dd,data,sl⟩:=o1;obtain⟨l,k,data2,j⟩:=o2;simp only at g2 g3 k2 k3;subst g2 g3 k2 k3;have i:A.units+1+PyData.depthAll xs<cLine:=by
      simp only[PyData.depth]at g
      lia
     exact richCompare_meets_room (op:=.Lt) ⟨_,g1,rfl⟩ ⟨_,k1,rfl⟩ PySem.F.slot_tuple_lt PySem.F.entry_tuple_lt (PySem.F.args_tuple_lt_2 _ _) (zG7 a1 a2 vs ws n1 n2 dd k sl j xs ys r h (by simpa only[PyData.canLay0]using m) (by simpa only[PyData.canLay0]using n))
      ⟨g1,k1,⟨_,_,g4,k4⟩,i,ma xs A.in1 s (show A.units+1+PyData.depthAll xs<cLine from i),show Value.bool r≠Value.notImplemented/\Q (.bool r) s from⟨(λx=>nomatch x),q⟩⟩ (zZ9 (zZ4 _ _) g)
  |_=>cases h
 |.none,e,A,s,g=>λv u as bs r f c _ _ h=>by cases e<;>cases h
 |.bool _,e,A,s,g=>λv u as bs r f c _ _ h=>by cases e<;>cases h
 |.list _,e,A,s,g=>λv u as bs r f c _ _ h=>by cases e<;>cases h
 |.dict _,e,A,s,g=>λv u as bs r f c _ _ h=>by cases e<;>cases h
theorem ma :∀(xs:List PyData) (A:Around) (s:Shared),A.units+PyData.depthAll xs<cLine->∀x∈xs,∀y,zF0 A s x y
 |[],A,s,a=>λx b=>by cases b
 |d::ds,A,s,a=>λx b y=>by
  simp only[PyData.depthAll]at a;have c:=Nat.le_max_left d.depth (PyData.depthAll ds);have f:=Nat.le_max_right d.depth (PyData.depthAll ds);by_cases e:x=d
  ·rw[e];exact qF d y A s (by lia)
  ·exact ma ds A s (zv2 a) x ((zY2.mp b).resolve_left e) y
end
section
variable {prog:Program}{w:World}{A:Around}{R:Result->Shared->Prop}{it:Addr}{fp wr:List Addr}{m:Nat}{P:Nat->Value->Prop}{St:Nat->Heap->Prop}
def sQ (h0 h:Heap):Prop:=∀b o,h0.get? b=some o->h.get? b=some o
def zI8 (prog:Program)(w:World)(A:Around)(h0:Heap)(P:Nat->Value->Prop)(bt:Nat->Nat->Bool):Prop:=
 ∀i j x y (s:Shared) (Q:Value->Shared->Prop) (E:Value->Shared->Prop),P i x->P j y->sQ h0 s.heap->Q (.bool (bt i j)) s->wpAny (model prog w) A (richCompare .Lt x y) Q E s
theorem fh (h0:Heap)(W:Walks prog w A.in1 it fp wr m P St)(bt:Nat->Nat->Bool)(F:zI8 prog w A.in1 h0 P bt)(D:Addr)(hD:D∉fp)(v:h0.get? D=none)(u:∀b∈wr,h0.get? b=none):
  ∀(k j:Nat) (s:Shared) (x:Value) (c:Nat),m-(j+1)=k->j+1<=m->St (j+1) s.heap->sQ h0 s.heap->P (argBest bt j) x->
  s.heap.get? D=some {cls:=.type "list",dict:=none,data:=.seq #[x,x] c,slots:=#[]}->
  (∀y h' tk,P (argBest bt (m-1)) y->(∀b o,b∉wr->b≠D->s.heap.get? b=some o->h'.get? b=some o)->R (.ok (.ret y)) {s with heap:=h',toks:=tk})->
  codeAny (model prog w) A (.builtin "min.loop" ⟨[.ref it,.none,.ref D],[]⟩) R s:=by
 have l:D∉wr:=λq=>hD (W.sub _ q);have nm:(toString "min"++toString ".loop":String)="min.loop":=by decide
 intro k;induction k with
 |zero=>
  intro j s x c hk C st kp px i t;have e:j+1=m:=(zt3 hk C);refine ya0 yf7 ?_;rw[z73 z64 _];show wpAny _ A.in1 (seqItems? (.ref D) >>= _) _ _ s;refine zX6 (z51 i rfl ?_);show wpAny _ A.in1 (tryCatch (pyNext (.ref it)) _ >>= _) _ _ s;refine zX6 (ye9 (W.done s _ _ (e▸st) λh' tk f=>?_));have a:=f D _ l i;show wpAny _ A.in1 (updateSeq D (λ_=>#[]) >>= _) _ _ _;refine zX6 (z78 a rfl (zX6 (z94 (zY4 ?_))));exact t x _ tk (by rw[<-e];exact px) λb o d p q=>(zZ2 _ _ (z23 p)).trans (f b o d q)
 |succ k E=>
  intro j s x c hk C st kp px i t;have lt:j+1<m:=(zx4 hk);refine ya0 yf7 ?_;rw[z73 z64 _];show wpAny _ A.in1 (seqItems? (.ref D) >>= _) _ _ s;refine zX6 (z51 i rfl ?_);show wpAny _ A.in1 (tryCatch (pyNext (.ref it)) _ >>= _) _ _ s;refine zX6 (ye9 (W.item (j+1) s _ _ lt st λy h' tk py n f=>?_));have a:=f D _ l i;have h:sQ h0 h':=λb o q=>f b o (λz=>by rw[u b z]at q;cases q) (kp b o q);show wpAny _ A.in1 (tryCatch (holding [y,y] (richCompare .Lt y x >>= _)) _ >>= _) _ _ _;refine zX6 (ye9 (z41 (zX6 (F (j+1) (argBest bt j) y x _ _ _ py px h ?_))));refine zX6 (z41 (z65 (zX6 (z94 (zY4 ?_)))));cases hb:bt (j+1) (argBest bt j)with
  |true=>
   simp only[ya8];refine zX6 (z78 a rfl (zX6 (z94 ?_)));rw[nm];refine zY4 ⟨z85 z64 _,E (j+1) _ y _ (za9 hk) lt (W.frame _ _ _ n λb hf o q=>?_) (λb o q=>?_) (by simp only[argBest,hb,ya8];exact py) (z49 _ a rfl) λz p g B kz=>?_⟩
   ·exact(zZ2 _ _ (λz:D=b=>hD (by rw[z];exact hf))).trans q
   ·exact(zZ2 _ _ (λz:D=b=>by rw[<-z,v]at q;cases q)).trans (h b o q)
   ·exact t z p g B λb o d r q=>kz b o d r ((zZ2 _ _ (z23 r)).trans (f b o d q))
  |false=>
   simp only[z34,z87];refine zX6 (z94 ?_);rw[nm];refine zY4 ⟨z85 z64 _,E (j+1) _ x c (za9 hk) lt n h (by simp only[argBest,hb,z34,z87];exact px) a λz p g B kz=>?_⟩;exact t z p g B λb o d r q=>kz b o d r (f b o d q)
theorem je (h0:Heap)(W:Walks prog w A.in1 it fp wr m P St)(bt:Nat->Nat->Bool)(p:zI8 prog w A.in1 h0 P bt)(D:Addr)(hD:D∉fp)(e:h0.get? D=none)(d:∀b∈wr,h0.get? b=none)(hm:0<m){s:Shared}{c:Nat}(st:St 0 s.heap)(kp:sQ h0 s.heap)
  (n:s.heap.get? D=some {cls:=.type "list",dict:=none,data:=.seq #[] c,slots:=#[]})
  (r:∀y h' tk,P (argBest bt (m-1)) y->(∀b o,b∉wr->b≠D->s.heap.get? b=some o->h'.get? b=some o)->R (.ok (.ret y)) {s with heap:=h',toks:=tk}):
  codeAny (model prog w) A (.builtin "min.loop" ⟨[.ref it,.none,.ref D],[]⟩) R s:=by
 have g:D∉wr:=λq=>hD (W.sub _ q);have nm:(toString "min"++toString ".loop":String)="min.loop":=by decide
 refine ya0 yf7 ?_;rw[z73 z64 _];show wpAny _ A.in1 (seqItems? (.ref D) >>= _) _ _ s;refine zX6 (z51 n rfl ?_);show wpAny _ A.in1 (tryCatch (pyNext (.ref it)) _ >>= _) _ _ s;refine zX6 (ye9 (W.item 0 s _ _ hm st λy h' tk py h f=>?_));have a:=f D _ g n;have j:sQ h0 h':=λb o q=>f b o (λz=>by rw[d b z]at q;cases q) (kp b o q);show wpAny _ A.in1 (updateSeq D (λ_=>#[y,y]) >>= _) _ _ _;refine zX6 (z78 a rfl ?_);rw[nm];refine zY4 ⟨z85 z64 _,fh h0 W bt p D hD e d _ 0 _ y _ rfl hm (W.frame _ _ _ h λb hf o q=>?_) (λb o q=>?_) py (z49 _ a rfl) λz u i t kz=>?_⟩
 ·exact(zZ2 _ _ (λz:D=b=>hD (by rw[z];exact hf))).trans q
 ·exact(zZ2 _ _ (λz:D=b=>by rw[<-z,e]at q;cases q)).trans (j b o q)
 ·exact r z u i t λb o k l q=>kz b o k l ((zZ2 _ _ (z23 l)).trans (f b o k q))
end
section
variable {prog:Program}{w:World}{A:Around}{E:Value->Shared->Prop}{s:Shared}
theorem gP {l:Addr}{items:Array Value}{bt:Nat->Nat->Bool}{Q:Value->Shared->Prop}(d:A.handled=none)(c:s.heap.IsList l items)(h0:0<items.size)(h:zI8 prog w A.in1 s.heap (λi v=>items[i]?=some v) bt)
  (f:∀v h' tk,items[argBest bt (items.size-1)]?=some v->sQ s.heap h'->Q v {s with heap:=h',toks:=tk}):wpAny (model prog w) A (call (.builtin "min") [.ref l]) Q E s:=by
 have nm:(toString "min"++toString ".loop":String)="min.loop":=by decide
 have a:l<s.heap.objs.size:=by obtain⟨_,e,_⟩:=c;exact zY6 e
 refine call_function_tree PySem.F.kind_min PySem.F.plain_min PySem.F.entry_min (PySem.F.args_min1 _) ?_;show wpAny _ A.in1 (Builtin.Builtins.bindParams "min" ["key","default"] 0 ⟨[],[]⟩ >>= _) _ _ s;refine zX6 (wpAny_of_eq (show Builtin.Builtins.bindParams "min" ["key","default"] 0 ⟨[],[]⟩=pure [none,none]from rfl) (zX6 (zY4 ?_)));refine zX6 (z74 c ?_);refine zX6 (wpAny_newObj_type ?_);rw[nm];have W:=Walks.list (prog:=prog) (w:=w) (A:=A.in1) d s.heap.objs.size l (z01 a) items;have up:sQ s.heap ((s.heap.push {cls:=.type "list_iterator",data:=.fields #[.ref l,.int 0 0]}).push {cls:=.type "list",data:=.seq #[]}):=λb o e=>zX7 _ (zX7 _ e);have sz:(s.heap.push {cls:=.type "list_iterator",data:=.fields #[.ref l,.int 0 0]}).objs.size=s.heap.objs.size+1:=z57 _ _;refine zY4 ⟨z85 z64 _,je s.heap W bt h _ (λq=>?_) (yc0 (by rw[sz];exact z82 _)) (λb hb=>?_) h0 (W.frame 0 (s.heap.push {cls:=.type "list_iterator",data:=.fields #[.ref l,.int 0 0]}) _ ⟨⟨_,zZ0 _ rfl,rfl,rfl⟩,c.push _⟩ λb _ o e=>zX7 _ e) up (zZ0 _ rfl) λv h' tk pv g=>?_⟩
 ·rcases zY2.mp q with z|z
  ·rw[sz]at z;exact absurd z (Nat.succ_ne_self _)
  ·rw[zZ1,sz]at z;exact absurd a (by rw[<-z];exact Nat.not_lt.mpr (z82 _))
 ·rw[zZ1.mp hb];exact yc0 (zY3 _)
 ·refine f v h' tk pv λb o e=>g b o (λz=>?_) (λz=>?_) (up b o e)
  ·rw[zZ1.mp z]at e;exact absurd (zY6 e) (z36 _)
  ·have:=zY6 e;rw[z,sz]at this;exact absurd this (Nat.not_lt.mpr (z82 _))
end
def uC (ds:List PyData)(i j:Nat):Bool:=match ds[i]?,ds[j]? with
 |some x,some y=>(ltD x y).getD false
 |_,_=>false
def minD :List PyData->PyData
 |[]=>.none
 |d::ds=>ds.foldl (λb x=>if(ltD x b).getD false=true then x else b) d
theorem kN (d:PyData)(ds:List PyData)(x:PyData):minD (d::(ds++[x]))=if(ltD x (minD (d::ds))).getD false=true then x else minD (d::ds):=by
 show List.foldl _ d (ds++[x])=_;rw[List.foldl_append];rfl
theorem mV {ds:List PyData}{i j:Nat}{x y:PyData}(b:ds[i]?=some x)(a:ds[j]?=some y):uC ds i j=(ltD x y).getD false:=by
 unfold uC;rw[b,a]
theorem ze5 (ds:List PyData):∀k,k<ds.length->ds[argBest (uC ds) k]?=some (minD (ds.take (k+1))):=by
 intro k
 induction k with
 |zero=>
  intro h;cases ds with
  |nil=>simp at h
  |cons d ds=>simp[argBest,minD]
 |succ k f=>
  intro h;have a:=f (zZ9 (zZ4 _ _) h);cases ds with
  |nil=>simp at h
  |cons d ds=>
   have c:(d::ds)[k+1]?=some (d::ds)[k+1]:=zY1 h;have tk:(d::ds).take (k+1+1)=d::(ds.take k++[(d::ds)[k+1]]):=by
    have hk:k<ds.length:=by simpa using h
    rw[yd3,z43,zY1 hk];rfl
   have b:(d::ds).take (k+1)=d::ds.take k:=yd3;rw[tk,kN,<-b];have e:uC (d::ds) (k+1) (argBest (uC (d::ds)) k)=(ltD (d::ds)[k+1] (minD ((d::ds).take (k+1)))).getD false:=mV c a;simp only[argBest];rw[e];split
   ·exact c
   ·exact a
theorem uN {X:Cx}{pins:List (Addr×Obj)}{σ:St}{H:Hp}{s:Shared}(I:Inv X pins σ H s):∀{xs:List V}{ds:List PyData}{us:List Value}{i:Nat}{d:PyData},DVs H xs ds->Vals xs us->ds[i]?=some d->∃u as,us[i]?=some u/\Reads s.heap u d as
 |_,_,_,_,_,.nil,_,e=>by simp at e
 |_,_,_,i,d,.cons hx hs,.cons (b:=u) ru rs,e=>by
  cases i with
  |zero=>
   simp at e;subst e;obtain⟨as,c⟩:=hx.reads I ru;exact⟨u,as,rfl,c⟩
  |succ i=>
   obtain⟨f,as,a,g⟩:=uN I hs rs (i:=i) (by simpa using e);exact⟨f,as,by simpa using a,g⟩
def zC5 (ds:List PyData):Prop:=∀x∈ds,∀y∈ds,(ltD x y).isSome=true
section
variable {X:Cx}{α:Ev}{e:Expr}{pos p:Pos}{Q:PyData->Prop}
theorem fk (F:X.calm=true)(T:X.A.units+70<cLine):xi X (.builtin "min") (λxs H Q=>∃(l:Addr) (vs:List V) (ds:List PyData),xs=[.ref l]/\H l=some (.lst vs)/\DVs H vs ds/\ds≠[]/\zC5 ds/\(∀d∈ds,d.canLay0=true/\d.depth<=60)/\∀(i:Nat) (v:V),vs[i]?=some v->ds[i]?=some (minD ds)->Q v H):=by
 intro pins s σ H xs us Q I r h;obtain⟨l,vs,ds,rfl,E,dv,ne,N,o,q⟩:=h;obtain⟨u,rfl,G⟩:=vals1 r;cases G;obtain⟨its,b,pl,hz⟩:=I.list (SqL.of E);have l1:=b.length;have l2:vs.length=ds.length:=dv.length;have h0:0<ds.length:=List.length_pos_iff.mpr ne;refine gP (bt:=uC ds) (I.ok.hd F) pl.isList (by simp;exact zX9 h0 (zZ7 (Eq.trans l2.symm l1))) ?_ λv h' tk w kp=>?_
 ·intro i j x y s2 S P m hy kp O;have hi:i<ds.length:=by have:=(z62.mp m).1;simp at this;exact zX9 this (zZ7 (Eq.trans l1.symm l2))
  have g:j<ds.length:=by have:=(z62.mp hy).1;simp at this;exact zX9 this (zZ7 (Eq.trans l1.symm l2))
  have n:ds[i]?=some ds[i]:=zY1 hi;have z:ds[j]?=some ds[j]:=zY1 g;obtain⟨K,C,g1,g2⟩:=uN I dv b n;obtain⟨J,D,g3,M⟩:=uN I dv b z;have e1:K=x:=by have:=m;simp at this;rw[g1]at this;exact z09 this
  have L:J=y:=by have:=hy;simp at this;rw[g3]at this;exact z09 this
  subst e1 L;obtain⟨t,a⟩:=ye2.mp (N _ (z92 hi) _ (z92 g));have f:=o _ (z92 hi);have k:=o _ (z92 g);refine qF ds[i] ds[j] X.A.in1 s2 (by show X.A.units+1+_<cLine;lia) _ _ _ _ t (Reads.keeps kp g2) (Reads.keeps kp M) f.1 k.1 a _ _ _ _ ?_;have:uC ds i j=t:=by rw[mV n z,a];rfl
  rw[<-this];exact O
 ·have hb:=ze5 ds (ds.length-1) (sX h0);have B:its.toArray.size-1=ds.length-1:=by simp;lia
  rw[B]at w;rw[show ds.length-1+1=ds.length by omega,z40]at hb;have c:its[argBest (uC ds) (ds.length-1)]?=some v:=by simpa using w
  have hi:argBest (uC ds) (ds.length-1)<vs.length:=by have:=(zY0.mp hb).1;exact zX9 this (zZ7 l2.symm)
  obtain⟨R,g1,g2⟩:=b.get (zY1 hi);rw[c]at g1;cases g1;exact⟨_,H,I.kept (t':=tk) kp,g2,q _ _ (zY1 hi) hb⟩
theorem zm8 (o:X.calm=true)(n:X.A.units+70<cLine)(hg:Gl X "min")(hm:X.mg "min"=none)(h:EvD X α e λx=>∃ds,x=.list ds/\ds≠[]/\PyData.hasDictAll ds=false/\zC5 ds/\(∀d∈ds,d.canLay0=true/\d.depth<=60)/\Q (minD ds))(he:starEach [e] X.env=(false,eval e X.env)::starEach [] X.env:=by rfl):
  EvD X α (.Call (.Name "min" p) [e] [] pos) Q:=by
 refine xF (fk o n) hg hm boot_min (zi (h.imp λx b=>?_) he) (he:=he);obtain⟨ds,e1,ne,nd,j,f,q⟩:=b;refine zq ?_;intro F σ H vs R m l k;subst e1;obtain⟨v,rfl,av⟩:=l.one;obtain⟨a,xs,rfl,g,c⟩:=av.lst_inv;refine⟨a,xs,ds,rfl,(zb g).2,(c.dv nd).same yx,ne,j,f,λi v r hd=>?_⟩;obtain⟨s,g1,g2⟩:=c.get hd;rw[r]at g1;cases g1;exact k _ _ H q m.tp Kz.refl g2
def tP :List Int->Int
 |[]=>0
 |z::zs=>zs.foldl (λb x=>if b<x then x else b) z
theorem fb (d:Int)(ds:List Int)(x:Int):tP (d::(ds++[x]))=if tP (d::ds)<x then x else tP (d::ds):=by
 show List.foldl _ d (ds++[x])=_;rw[List.foldl_append];rfl
def gj (zs:List Int)(i j:Nat):Bool:=decide (zs.getD i 0 > zs.getD j 0)
theorem zg4 {zs:List Int}{i j:Nat}{x y:Int}(b:zs[i]?=some x)(a:zs[j]?=some y):gj zs i j=decide (y<x):=by
 unfold gj;rw[z08,z08,b,a];rfl
theorem za0 (zs:List Int):∀k,k<zs.length->zs[argBest (gj zs) k]?=some (tP (zs.take (k+1))):=by
 intro k
 induction k with
 |zero=>
  intro h;cases zs with
  |nil=>simp at h
  |cons d ds=>simp[argBest,tP]
 |succ k f=>
  intro h;have a:=f (zZ9 (zZ4 _ _) h);cases zs with
  |nil=>simp at h
  |cons d ds=>
   have c:(d::ds)[k+1]?=some (d::ds)[k+1]:=zY1 h;have tk:(d::ds).take (k+1+1)=d::(ds.take k++[(d::ds)[k+1]]):=by
    have hk:k<ds.length:=by simpa using h
    rw[yd3,z43,zY1 hk];rfl
   have b:(d::ds).take (k+1)=d::ds.take k:=yd3;rw[tk,fb,<-b];have e:gj (d::ds) (k+1) (argBest (gj (d::ds)) k)=decide (tP ((d::ds).take (k+1))<(d::ds)[k+1]):=zg4 c a;simp only[argBest];rw[e];by_cases z:tP ((d::ds).take (k+1))<(d::ds)[k+1]
   ·rw[z26 z,if_pos rfl,if_pos z];exact c
   ·rw[z06 z,if_neg (by decide),if_neg z];exact a
theorem gI (k:X.calm=true):xi X (.builtin "max") (λxs H Q=>∃(l:Addr) (zs:List Int),xs=[.ref l]/\H l=some (.lst (zs.map V.int))/\zs≠[]/\Q (.int (tP zs)) H):=by
 intro pins s σ H xs us Q I r h;obtain⟨l,zs,rfl,m,ne,q⟩:=h;obtain⟨u,rfl,n⟩:=vals1 r;cases n;obtain⟨its,f,pl,hz⟩:=I.list (SqL.of m);have l1:=f.length;rw[zX8]at l1;have h0:0<zs.length:=List.length_pos_iff.mpr ne;have c:l<s.heap.objs.size:=by obtain⟨_,e,_⟩:=pl.isList;exact zY6 e
 have val:∀i v,its.toArray[i]?=some v->∃t,v=Value.int (zs.getD i 0) t:=λi v d=>by
  have a:its[i]?=some v:=by simpa using d
  have hi:i<(zs.map V.int).length:=by rw[zX8,l1];exact(zY0.mp a).1
  obtain⟨w,g1,g2⟩:=f.get (zY1 hi);rw[a]at g1;cases g1;rw[List.getElem_map]at g2;obtain⟨t,rfl⟩:=g2;refine⟨t,?_⟩;rw[zX8]at hi;rw[z08,zY1 hi];rfl
 refine call_max_walk (z74 pl.isList ⟨s.heap.objs.size,[s.heap.objs.size,l],[s.heap.objs.size],_,_,_,gj zs,rfl,Walks.list (A:=X.A.in1) (I.ok.hd k) s.heap.objs.size l (z01 c) its.toArray,⟨⟨_,zZ0 _ rfl,rfl,rfl⟩,pl.isList.push _⟩,λb hb=>?_,by simp;exact zX9 h0 (zZ7 l1),CmpOf.ints_gt (λi=>zs.getD i 0) val,λv h' tk d j=>?_⟩)
 ·show b<(s.heap.push _).objs.size;rw[z57];rcases zY2.mp hb with z|z
  ·rw[z];exact z56 _
  ·rw[zZ1.mp z];exact yb3 c
 ·obtain⟨t,rfl⟩:=val _ _ d;have hb:=za0 zs (zs.length-1) (sX h0);rw[show zs.length-1+1=zs.length by omega,z40]at hb;have g:its.toArray.size-1=zs.length-1:=by simp;lia
  rw[g];refine⟨.int (tP zs),H,I.kept (t':=tk) (λb o e=>j b o (λz=>?_) (zX7 _ e)),⟨t,?_⟩,q⟩
  ·rw[zZ1.mp z]at e;exact absurd (zY6 e) (z36 _)
  ·rw[z08,hb];rfl
theorem AVs.intsV {H:Hp}{xs:List V}{zs:List Int}(h:AVs H xs (zs.map .int)):xs=zs.map V.int:=by
 induction zs generalizing xs with
 |nil=>cases h;rfl
 |cons n ns a=>cases h with
  |cons h b=>rw[z02,a b,h.int_inv]
theorem jW (g:X.calm=true)(hg:Gl X "max")(hm:X.mg "max"=none)(h:EvD X α e λx=>∃zs:List Int,x=.list (zs.map .int)/\zs≠[]/\Q (.int (tP zs)))(he:starEach [e] X.env=(false,eval e X.env)::starEach [] X.env:=by rfl):
  EvD X α (.Call (.Name "max" p) [e] [] pos) Q:=by
 refine xF (gI g) hg hm boot_max (zi (h.imp λx b=>?_) he) (he:=he);obtain⟨zs,e1,ne,q⟩:=b;refine zq ?_;intro F σ H vs R m f k;subst e1;obtain⟨v,rfl,av⟩:=f.one;obtain⟨a,xs,rfl,d,i⟩:=av.lst_inv;have c:=(zb d).2;rw[i.intsV]at c;exact⟨a,zs,rfl,c,ne,k _ _ H q m.tp Kz.refl (.int _)⟩
end
theorem lQ :typeLookup (.type "list_reverseiterator") "__len__"=pure none:=by rw[yd9,ya1];kernel_rfl
theorem ae :typeLookup (.type "list_reverseiterator") "__length_hint__"=pure (some (.builtin "list_reverseiterator.__length_hint__")):=by rw[yd9,ya1];kernel_rfl
section
variable {prog:Program}{w:World}{A:Around}{E:Value->Shared->Prop}{s:Shared}{it l:Addr}{items:Array Value}
theorem zc9 {Q:Bool->Shared->Prop}(hT:s.TypeIs (.ref it) "list_reverseiterator")(h:Q false s):wpAny (model prog w) A (Builtin.List.listLengthHint (.ref it)) Q E s:=by
 unfold Builtin.List.listLengthHint;refine zX6 (yd7 hT lQ ?_);show wpAny _ _ (specialOf (Value.ref it) (Str.ofString "__length_hint__") >>= _) _ _ _;refine zX6 (yd7 hT ae ?_);generalize a:("list_reverseiterator.__length_hint__":String)=id0
 wp_delta
 rw[show splitId id0=some ("list_reverseiterator","__length_hint__")from by subst a;decide +kernel];subst a;refine zX6 (wpAny_isInstance (T:="list_reverseiterator") (b:=true) hT (by rw[isSubtype_type];kernel_rfl) ?_);refine yb0 (λq=>absurd q (by decide)) λ_=>?_;refine yb0 (λ_=>?_) λq=>absurd (by decide +kernel) q;refine yb0 (λq=>absurd q (by decide +kernel)) λ_=>?_;exact zY4 h
theorem qp {Q:Value->Shared->Prop}(H:A.handled=none)(hne:l≠it)(hr:s.heap.IsRevIter it l ((items.size:Int)-1))(C:s.heap.IsList l items)(hn:items.size<=sizeLine)
  (B:∀h' tk acc c,(∀b o,b≠it->s.heap.get? b=some o->h'.get? b=some o)->h'.get? s.heap.objs.size=some {cls:=.type "list",dict:=none,data:=.seq acc c,slots:=#[]}->ItemsOf (λi v=>items[items.size-1-i]?=some v) acc items.size->Q (.ref s.heap.objs.size) {s with heap:=h',toks:=tk}):
  wpAny (model prog w) A (call (.type "list") [.ref it]) Q E s:=by
 refine callType_codes (Q₁:=λobj f=>obj=.ref s.heap.objs.size/\f={s with heap:=s.heap.push {cls:=.type "list",data:=.seq #[]}}) PySem.F.called_list (PySem.F.typeCall_list_1 _) PySem.F.entry_list_init
  (code_list_new _ ⟨rfl,rfl⟩) λobj f n=>?_
 obtain⟨rfl,rfl⟩:=n;generalize d:s.heap.objs.size=S at B ⊢;have t:(s.heap.push {cls:=.type "list",data:=.seq #[]}).get? S=some {cls:=.type "list",data:=.seq #[]}:=by rw[<-d];exact zZ0 _ rfl
 have up:∀b o,s.heap.get? b=some o->(s.heap.push {cls:=.type "list",data:=.seq #[]}).get? b=some o:=λb o e=>zX7 _ e;have y:it≠S:=by obtain⟨o,e,_⟩:=id hr;rw[<-d];exact z01 (zY6 e)
 have J:l≠S:=by obtain⟨o,e,_⟩:=id C;rw[<-d];exact z01 (zY6 e)
 have r:∀{b:Addr} {o:Obj},s.heap.get? b=some o->b≠S:=λe=>by rw[<-d];exact z01 (zY6 e)
 have W:=Walks.listRev (prog:=prog) (w:=w) (A:=A.in1.in1) H it l hne items;have x:S∉[it,l]:=by simp only[zY2,zZ8,z33,not_or];exact⟨z23 y,z23 J⟩
 refine⟨⟨_,t,rfl⟩,PySem.F.args_list_init_2 _ _,?_⟩;show wpAny _ _ (do let old <-Builtin.List.listItems (.ref S);Builtin.List.listUpdate (.ref S) (λ_=>#[]);letGo old.toList.reverse;Builtin.List.listExtendWith (.ref S) (.ref it) .none) _ _ _;refine zX6 ?_;unfold Builtin.List.listItems;refine zX6 (z51 t rfl (zY4 ?_));show wpAny _ _ (updateSeq S (λ_=>#[]) >>= λ_=>letGo (#[]:Array Value).toList.reverse >>= λ_=>Builtin.List.listExtendWith (.ref S) (.ref it) .none) _ _ _;refine zX6 (z78 t rfl ?_);obtain⟨L,j⟩:∃I,((s.heap.push {cls:=.type "list",data:=.seq #[]}).update S (Obj.mapSeq (λ_=>(#[]:Array Value)))).get? S=some {cls:=.type "list",dict:=none,data:=.seq #[] I,slots:=#[]}:=⟨_,z89 (c:="list") t λ_=>#[]⟩;have g:∀b o,s.heap.get? b=some o->((s.heap.push {cls:=.type "list",data:=.seq #[]}).update S (Obj.mapSeq (λ_=>(#[]:Array Value)))).get? b=some o:=
  λb o e=>(zZ2 _ _ (z23 (r e))).trans (up b o e)
 refine zX6 (z94 ?_);have hT:({s with heap:=(s.heap.push {cls:=.type "list",data:=.seq #[]}).update S (Obj.mapSeq (λ_=>(#[]:Array Value)))}:Shared).TypeIs (.ref it) "list_reverseiterator":=Heap.IsRevIter.typeIs (hr.at λo e=>g _ o e);unfold Builtin.List.listExtendWith;refine zX6 (yh1 hT ?_);have K:Builtin.List.listSameRef (.ref S) (.ref it)=false:=by simp[Builtin.List.listSameRef];exact z23 y
 have G:(Value.type "list_reverseiterator" == Value.type "list")=false:=by decide
 have D:(Value.type "list_reverseiterator" == Value.type "tuple")=false:=by decide
 simp only[K,G,D,yd0,z34,z87];refine zX6 (wpAny_pyIter_revIter (hr.at λo e=>g _ o e) ?_);refine zX6 (z41 (zc9 hT ?_));have key:∀(h:Heap) (c₁ tk:Nat),h.get? S=some {cls:=.type "list",dict:=none,data:=.seq #[] c₁,slots:=#[]}->(∀b o,s.heap.get? b=some o->h.get? b=some o)->codeAny (model prog w) A.in1 (.builtin "list.extend.loop" ⟨[.ref S,.ref it,.none],[]⟩) (wants (λv s'=>v=.none/\Q (.ref S) s') E) {s with heap:=h,toks:=tk}:=by
  intro h c₁ tk u a;refine codeAny_extend_loopS W.toS hn S x .none items.size 0 _ #[] c₁ rfl (zZ6 _) ⟨zZ6 _,by simpa using hr.at λo e=>a _ o e,C.at λo e=>a _ o e⟩ u (ItemsOf.nil _) λs' m c' hm k p=>?_;rw[Moved.eq_with hm];refine⟨rfl,B s'.heap s'.toks m c' (λb o hb e=>hm.heap b o (λz=>?_) (a b o e)) k p⟩;rcases zY2.mp z with z|z
  ·exact r e z
  ·exact hb (zZ1.mp z)
 refine yb0 (λq=>absurd q (by decide)) (λ_=>zY4 ⟨z85 z67 _,key _ _ _ j g⟩)
end
section
variable {X:Cx}{α:Ev}{a e c:Expr}{p p0 pos pos2:Pos}{Q:List PyData->Prop}
theorem jf {F:TA}(L:X.calm=true)(hgl:Gl X "list")(r:X.mg "list"=none)(hg:Gl X "reversed")(hm:X.mg "reversed"=none)(ha:PA X [a] F)
  (g:starEach [.Call (.Name "reversed" p) [a] [] pos2] X.env=[(false,eval (.Call (.Name "reversed" p) [a] [] pos2) X.env)]:=by rfl) (J:starEach [a] X.env=[(false,eval a X.env)]:=by rfl):
  PE X (.Call (.Name "list" p0) [.Call (.Name "reversed" p) [a] [] pos2] [] pos) (λσ H Q=>F σ H λvs H1=>∃(l:Addr) (xs:List V),vs=[.ref l]/\SqL X.K H1 l xs/\∀D,H1 D=none->Q (.ref D) (upd H1 D (.lst xs.reverse))):=by
 intro pins s σ H Q I h;refine Call_ (yU I hgl r boot_list (z32 ?_ g rfl));rw[g];show wpAny _ _ (spliced ((false,eval _ X.env)::backTo pos [])) _ _ s;refine Calls.spliced_cons ?_;refine Call_ (yU I hg hm boot_reversed (z32 (thn (ha pos2 pins s σ H _ I h) λus s1 t=>?_) J rfl));obtain⟨vs,H1,i,S,U⟩:=t;obtain⟨l,xs,rfl,hq,q⟩:=U;obtain⟨u,rfl,P⟩:=Vals.one S;cases(show u=Value.ref l from P);obtain⟨its,w,pl,hz⟩:=i.list hq;have hlen:=w.length;have v:l<s1.heap.objs.size:=by obtain⟨o,e,_⟩:=pl.isList;exact zY6 e
 refine call_reversed_list pl.isList (Calls.spliced_nil ?_);generalize m:s1.heap.objs.size=it;have E:Inv X pins σ H1 {s1 with heap:=s1.heap.push (revObj l ((its.toArray.size:Int)-1))}:=i.kept (t':=s1.toks) λb o e=>zX7 _ e;have fI:∀H',H' it=none->yW X pins H' it:=λH' hn=>by rw[<-m]at hn ⊢;exact i.fpOk (zY3 _) hn
 have M:H1 it=none:=by rw[<-m];exact i.hok.fresh (zY3 _)
 refine qp (it:=it) (l:=l) (items:=its.toArray) (i.ok.hd L) (by rw[<-m];exact z01 v) (by rw[<-m];exact⟨_,zZ0 _ rfl,rfl,rfl⟩) (pl.isList.push _) (by simp;exact zY8 (zZ7 hlen.symm) hz) λh' tk acc c kp e A=>?_;have N:({s1 with heap:=s1.heap.push (revObj l ((its.toArray.size:Int)-1))}:Shared).heap.objs.size=s1.heap.objs.size+1:=z57 _ _;generalize hD:({s1 with heap:=s1.heap.push (revObj l ((its.toArray.size:Int)-1))}:Shared).heap.objs.size=D at e ⊢;have d:(s1.heap.push (revObj l ((its.toArray.size:Int)-1))).objs.size<=D:=by rw[<-hD];exact zY3 _
 have R:H1 D=none:=E.hok.fresh d;refine⟨.ref D,upd H1 D (.lst xs.reverse),?_,rfl,q D R⟩;refine E.turnLay (ch:=[it]) (λb o hb e=>kp b o (by simpa using hb) e) (λb hb=>by rw[zZ1.mp hb];exact fI H1 M) d ⟨by rw[z80];exact hz,acc.toList,c,?_,by simpa using e⟩;have key:∀{as:List V} {bs:List Value},as.length=bs.length->(∀(j:Nat) x,as[j]?=some x->∃u,bs[j]?=some u/\RelV x u)->Vals as bs:=by
  intro as
  induction as with
  |nil=>intro bs k _;cases bs with|nil=>exact .nil|cons _ _=>simp at k
  |cons x as W=>
   intro bs k G;cases bs with
   |nil=>simp at k
   |cons y bs=>
    obtain⟨u,C,T⟩:=G 0 x rfl;simp at C;subst C;exact .cons T (W (by simpa using k) λj O f=>by simpa using G (j+1) O (by simpa using f))
 have sa:acc.size=xs.length:=by rw[A.1];simp;exact hlen.symm
 refine key (by rw[z80];exact sa.symm) λj x f=>?_;have n:j<xs.length:=by have:=(zY0.mp f).1;rwa [z80]at this
 rw[List.getElem?_reverse n]at f;obtain⟨u,g1,g2⟩:=w.get f;have z:its.toArray[its.toArray.size-1-j]?=some (acc[j]'(by omega)):=A.2 j (acc[j]'(by omega)) (by simp[show j<acc.size by omega]);refine⟨acc[j]'(by exact zX9 n (zZ7 sa.symm)),by simp[show j<acc.size by exact zX9 n (zZ7 sa.symm)],?_⟩;have e1:its.toArray.size-1-j=xs.length-1-j:=by simp;omega
 rw[e1]at z;have B:its[xs.length-1-j]?=some (acc[j]'(by exact zX9 n (zZ7 sa.symm))):=by simpa using z
 rw[g1]at B;rw[<-z09 B];exact g2
theorem AVs.reverse {H:Hp}{xs:List V}{ds:List PyData}(h:AVs H xs ds):AVs H xs.reverse ds.reverse:=by
 induction h using AVs.ind with
 |nil=>exact .nil
 |cons h _ b=>rw[List.reverse_cons,List.reverse_cons];exact b.append (.cons h .nil)
theorem kW (n:X.calm=true)(hgl:Gl X "list")(b:X.mg "list"=none)(hg:Gl X "reversed")(hm:X.mg "reversed"=none)(h:EvD X α a λx=>∃ds,x=.list ds/\Q ds.reverse)
  (d:starEach [.Call (.Name "reversed" p) [a] [] pos2] X.env=[(false,eval (.Call (.Name "reversed" p) [a] [] pos2) X.env)]:=by rfl) (f:starEach [a] X.env=[(false,eval a X.env)]:=by rfl):
  EvL X α (.Call (.Name "list" p0) [.Call (.Name "reversed" p) [a] [] pos2] [] pos) Q:=λF σ H R m k=>by
 refine⟨_,jf n hgl b hg hm (zy zf zW f) d f,?_⟩;refine h F σ H _ m λx s H1 i t1 k1 r=>?_;obtain⟨ds,rfl,q⟩:=i;have m1:=m.kz k1 t1;obtain⟨l,xs,rfl,g1,g2⟩:=r.lst_inv;refine⟨l,xs,rfl,SqL.of (zb g1).2,λD hD=>?_⟩;obtain⟨j,o,g⟩:=m1.lay hD g2.reverse;exact k _ _ _ q j (k1.trans o) (g.back m k1 t1)
theorem zf1 {body rest:List Stmt}{E:yi}(z:PassesOwn (model X.prog X.w) X.A X.env X.xe)(P:Nat->Ev->Prop)(x:Nat)(h0:P x α)
  (B:∀n α,P n α->EvT X α c λb=>if b=true then SvS X α body {nx:=λd=>∃f,f<n/\P f d,ct:=λd=>∃f,f<n/\P f d,bk:=λd=>SvS X d rest E,rt:=E.rt}else SvS X α rest E):
  SvS X α (.While c body [] pos::rest) E:=λF σ H D m r=>by
 refine⟨_,zv (aP z xm zB) zB,?_⟩;refine⟨λn g H'=>∃d,M F d g H'/\P n d,⟨x,α,m,h0⟩,?_⟩;rintro n g H' ⟨d,v,y⟩;refine B n d y F g H' _ v λb H1 q t1 k1=>?_;have m1:=v.kz k1 t1;cases b with
 |true=>
  rw[if_pos rfl]at q ⊢;refine⟨λj l=>∃f,f<n/\∃i,M F i j l/\P f i,λj l ⟨f,k,o⟩=>⟨f,k,o⟩,?_⟩;exact q F g H1 _ m1 ⟨λh σ2 t m2 u=>by obtain⟨f,k,o⟩:=u;exact⟨f,k,h,m2,o⟩,r.rt,λh σ2 t m2 C=>C F σ2 t D m2 r,λh σ2 t m2 s=>by obtain⟨f,k,o⟩:=s;exact⟨f,k,h,m2,o⟩⟩
 |false=>
  rw[if_neg (by decide)]at q ⊢;exact q F g H1 D m1 r
end
def mB (Q:PyData->Prop):List PyData->Prop
 |[]=>True
 |d::r=>Q d/\mB Q r
theorem mB.mem {Q:PyData->Prop}:∀{ds:List PyData},mB Q ds->∀d∈ds,Q d
 |[],_,d,h=>by cases h
 |x::r,h,d,hd=>by
  rcases zY2.mp hd with rfl|hd
  ·exact h.1
  ·exact mB.mem h.2 d hd
theorem zp5 {x:PyData}{ds:List PyData}{v:Int}{Q:PyData->Prop}(b:wI x=some ds)(h0:0<=v)(a:v<ds.length)(h:mB Q ds):∃ds i d,wI x=some ds/\PyData.int v=.int i/\atI ds i=some d/\Q d:=by
 obtain⟨d,hd,e⟩:=zw3 h0 a;exact⟨ds,v,d,b,rfl,e,h.mem d hd⟩
theorem aZ {x:PyData}{ds:List PyData}{v:Int}{Q:PyData->Prop}(P:PyData->Prop)(b:wI x=some ds)(h0:0<=v)(a:v<ds.length)(h:mB P ds)(k:∀d,P d->Q d):∃ds i d,wI x=some ds/\PyData.int v=.int i/\atI ds i=some d/\Q d:=by
 obtain⟨d,hd,e⟩:=zw3 h0 a;exact⟨ds,v,d,b,rfl,e,k d (h.mem d hd)⟩
theorem ui {k:Bool}{p q:Prop}(b:k=true->p)(a:k=false->q):if k=true then p else q:=by
 cases k with
 |true=>exact b rfl
 |false=>exact a rfl
theorem uB {i j:Int}:PyData.eqv (.int i) (.int j)=decide (i=j):=by
 show(i == j)=_;by_cases h:i=j<;>simp[h]
section
variable {X:Cx}{α:Ev}{e a b:Expr}{pos p:Pos}{E:yi}{rest:List Stmt}
def EvR (X:Cx)(α:Ev)(e:Expr)(Q:PyData->Prop):Prop:=∀(F:Fr) (σ:St) (H:Hp) (R:VK),M F α σ H->(∀d v H',Q d->zA F H'->Kz F H H'->AV (sub (λx=>¬F.O0 x/\∀xs,F.H0 x≠some (.lst xs)) H') v d->R v H')->uz X e σ H R
theorem kJ {Q:PyData->Prop}(h:EvD X α e λd=>noL d=true/\Q d):EvR X α e Q:=λF σ H R m k=>h F σ H R m λd v H' q t kz r=>k d v H' q.2 t kz (r.noL (λx o g z=>by
 obtain⟨c,f⟩:=zb z;refine zt ⟨ow0 c,λxs w=>?_⟩ f;have:=kz _ _ (m.keep _ _ w (m.tp.nt (ow0 c))) (m.tp.nt (ow0 c));rw[f]at this;cases this;exact g trivial) q.1)
theorem pU {Q:PyData->Prop}(h:EvL X α e λds=>wm ds=true/\Q (.list ds)):EvR X α e Q:=λF σ H R m k=>h F σ H R m λds v H' q t kz r=>by
 obtain⟨l,xs,rfl,d,j,i⟩:=r;refine k _ _ H' q.2 t kz (.lst (zt ⟨ow0 (m.fresh d),λxs w=>by rw[m.fresh0 d]at w;cases w⟩ j) (i.noL (λx o g z=>?_) q.1));obtain⟨c,f⟩:=zb z;refine zt ⟨ow0 c.1,λxs w=>?_⟩ f;have:=kz _ _ (m.keep _ _ w (m.tp.nt (ow0 c.1))) (m.tp.nt (ow0 c.1));rw[f]at this;cases this;exact g trivial
def zj6 (X:Cx)(α:Ev)(c:List Expr)(Q:List PyData->Prop):Prop:=∀(F:Fr) (σ:St) (H:Hp) (R:List V->Hp->Prop),M F α σ H->(∀ds vs H',Q ds->zA F H'->Kz F H H'->AVs (sub (λx=>¬F.O0 x/\∀xs,F.H0 x≠some (.lst xs)) H') vs ds->R vs H')->zF4 X c σ H R
theorem iQ {Q:List PyData->Prop}(q:Q []):zj6 X α [] Q:=λF σ H R m k=>⟨_,zW,k _ _ H q m.tp Kz.refl .nil⟩
theorem wz {c:List Expr}{Q:List PyData->Prop}(h:EvR X α e λd=>zj6 X α c λds=>Q (d::ds))(l:starEach (e::c) X.env=(false,eval e X.env)::starEach c X.env:=by rfl):zj6 X α (e::c) Q:=λF σ H R m k=>by
 refine⟨_,zy zf yt l,?_⟩;refine h F σ H _ m λd v H1 i t1 k1 n=>?_;have m1:=m.kz k1 t1;exact i F σ H1 _ m1 λas vs g j t2 k2 f=>k _ _ g j t2 (k1.trans k2) (.cons (n.same (zm λx o z w=>⟨z,k2 _ _ w (m.tp.nt z.1)⟩)) f)
theorem aq {n:Nat}{f:List Expr}{Q:PyData->Prop}(h:zj6 X α f λds=>ds.length<=1000/\Q (.tuple ds)):EvR X α (.Tuple f n pos) Q:=λF σ H R m k=>by
 refine⟨_,lZ yt,?_⟩;refine h F σ H _ m λds vs H1 d t1 k1 g=>?_;have m1:=m.kz k1 t1;refine⟨by rw[g.length];exact z30 (yb d.1),λp c=>?_⟩;exact k _ _ _ d.2 (t1.same (zH c)) (k1.trans (Kz.of_same (zH c))) (.tup (zt ⟨ow0 (m1.fresh c),λxs w=>by rw[m1.fresh0 c]at w;cases w⟩ zh) (g.same (zm λx o z w=>⟨z,by rw[zc (zk w c)];exact w⟩)))
theorem iU (h:EvR X α e λd=>∀S,E.rt (.deep d S)):SvS X α (.Return (some e) pos::rest) E:=λF σ H D m r=>by
 refine⟨_,zv (uZ zf) zB,?_⟩;refine h F σ H _ m λd v H1 g t1 k1 i=>?_;have m1:=m.kz k1 t1;refine r.rt (.deep d λy=>¬F.O0 y/\F.H0 y=none/\∃xs,H1 y=some (.lst xs)) _ _ ⟨t1,m.keep.trans k1,?_,?_⟩ (g _)
 ·refine i.same λy o z=>?_;obtain⟨c,f⟩:=zb z;unfold uW;by_cases w:¬F.O0 y/\F.H0 y=none/\∃xs,H1 y=some (.lst xs)
  ·rw[if_pos w];exact f
  ·rw[if_neg w,zt (p:=λx=>¬F.O0 x) c.1 f];cases o with
   |lst xs=>
    exfalso
    cases q:F.H0 y with
    |none=>exact w ⟨c.1,q,xs,f⟩
    |some o'=>
     have:=m1.keep y o' q (m.tp.nt c.1);rw[f]at this;cases this;exact c.2 xs q
   |_=>rfl
 ·exact λx z=>z
end
def zS0 :R2:=λx y H R=>rEq x y H R\/zS2 x y H R
def zT4 :R2:=λx y H R=>rNe x y H R\/zP2 x y H R
theorem cq {X:Cx}(c:X.A.units+64<cLine):OpR X (compareOp .Eq) zS0:=λpins s σ H x y v u Q I b a h=>h.elim (λh=>zy4 _ _ _ _ _ _ _ _ _ I b a h) λh=>zB7 c _ _ _ _ _ _ _ _ _ I b a h
theorem zA8 {X:Cx}(c:X.A.units+64<cLine):OpR X (compareOp .NotEq) zT4:=λpins s σ H x y v u Q I b a h=>h.elim (λh=>zS6 _ _ _ _ _ _ _ _ _ I b a h) λh=>zH1 c _ _ _ _ _ _ _ _ _ I b a h
theorem zo1 {i j:Str}:Cmp rNe (.str i) (.str j) (!decide (i=j)):=λp H d c R b a h=>by
 cases b.str_inv;cases a.str_inv;refine⟨rfl,?_⟩;rw[show decide (V.str i=V.str j)=decide (i=j) by simp];exact h
def lr (x y:PyData)(Q:Bool->Prop):Prop:=∃k,Cmp zS0 x y k/\Cmp zT4 x y (!k)/\Q k
theorem zn9 {i j:Int}{Q:Bool->Prop}(h:Q (decide (i=j))):lr (.int i) (.int j) Q:=⟨_,λp H c a R d b z=>.inl (zn5 p H c a R d b z),λp H c a R d b z=>.inl (zm1 p H c a R d b z),h⟩
theorem zk7 {i j:Str}{Q:Bool->Prop}(h:Q (decide (i=j))):lr (.str i) (.str j) Q:=⟨_,λp H c a R d b z=>.inl (iu p H c a R d b z),λp H c a R d b z=>.inl (zo1 p H c a R d b z),h⟩
theorem eqk {x y:PyData}{Q:Bool->Prop}(s1:SeqAt.shaped x=true)(s2:SeqAt.shaped y=true)(d:x.hasDict=false)(c:y.hasDict=false)(h:Q (PyData.eqv x y)):lr x y Q:=
 ⟨_,λp H f e R b a z=>.inr ⟨x,y,(b.dv d).same yx,(a.dv c).same yx,s1,s2,z⟩,λp H f e R b a z=>.inr ⟨x,y,(b.dv d).same yx,(a.dv c).same yx,s1,s2,z⟩,h⟩
theorem dR {i j:Bool}{Q:Bool->Prop}(h:Q (i == j)):lr (.bool i) (.bool j) Q:=eqk rfl rfl rfl rfl (by simpa[PyData.eqv]using h)
section
variable {X:Cx}{α:Ev}{a b:Expr}{pos:Pos}{Q:PyData->Prop}{T:Bool->Prop}
theorem zB5 (d:X.A.units+64<cLine)(h:EvD X α a λx=>EvD X α b λy=>lr x y λk=>Q (.bool k)):EvD X α (.Compare a [.Eq] [b] pos) Q:=kI (cq d) (yR _) (h.imp λx h=>h.imp λy c=>by obtain⟨k,e,_,q⟩:=c;exact⟨k,e,q⟩)
theorem zI6 (d:X.A.units+64<cLine)(h:EvD X α a λx=>EvD X α b λy=>lr x y T):EvT X α (.Compare a [.Eq] [b] pos) T:=xT (cq d) (yR _) (h.imp λx h=>h.imp λy c=>by obtain⟨k,e,_,q⟩:=c;exact⟨k,e,q⟩)
theorem zC0 (d:X.A.units+64<cLine)(h:EvD X α a λx=>EvD X α b λy=>lr x y λk=>T (!k)):EvT X α (.Compare a [.NotEq] [b] pos) T:=xT (zA8 d) (yR _) (h.imp λx h=>h.imp λy c=>by obtain⟨k,_,e,q⟩:=c;exact⟨!k,e,q⟩)
theorem zc7 {k:Bool}{p q:Prop}(e:k=true)(h:p):if k=true then p else q:=by rw[if_pos e];exact h
theorem zR0 {k:Bool}{p q:Prop}(e:k=false)(h:q):if k=true then p else q:=by rw[if_neg (by rw[e];decide)];exact h
variable {E:yi}{s t:List Stmt}
theorem sg {k:Bool}(e:k=true)(h:SvS X α s E):SvS X α (if k=true then s else t) E:=by rw[if_pos e];exact h
theorem tS {k:Bool}(e:k=false)(h:SvS X α t E):SvS X α (if k=true then s else t) E:=by rw[if_neg (by rw[e];decide)];exact h
end
section
variable {X:Cx}{α:Ev}{a b:Expr}{pos:Pos}{Q:PyData->Prop}{T:Bool->Prop}
def zS3 :R2:=λx y H Q=>∃a v,x=.ref a/\nC H a y (some v)/\Q v H
theorem zh8 (e:X.A.units+1<cLine):IxR X zS3:=λvalue slice pins s σ H x y v u Q I i c h f=>by
 obtain⟨a,z,rfl,g,q⟩:=h;cases i;exact tail_any (mQ I g) yd8.lookup (gW e I g c λk s' d j=>⟨z,H,d,j,q⟩) f
def jj (x y:PyData)(Q:PyData->Prop):Prop:=(∃ds i d,wI x=some ds/\y=.int i/\atI ds i=some d/\Q d)\/∃ds k d,x=yT ds/\y=yX k/\uo ds k=some d/\Q d
theorem ixk {x y:PyData}{ds:List PyData}{i:Int}{d:PyData}(e:wI x=some ds)(f:y=.int i)(c:atI ds i=some d)(h:Q d):jj x y Q:=.inl ⟨ds,i,d,e,f,c,h⟩
theorem zN1 {d:PyData}{r:List PyData}(h:Q d):jj (.tuple (d::r)) (.int 0) Q:=ixk rfl rfl (pH (j:=0) rfl) h
theorem uD {ds:List (PyData×PyData)}{k:Key}{d y:PyData}(c:y=yX k)(e:uo ds k=some d)(h:Q d):jj (yT ds) y Q:=.inr ⟨ds,k,d,rfl,c,e,h⟩
theorem oU {x:PyData}{ds:List PyData}{v:Int}(d:wI x=some ds)(h0:0<=v)(c:v<ds.length)(h:mB Q ds):jj x (.int v) Q:=.inl (zp5 d h0 c h)
theorem mC {x:PyData}{ds:List PyData}{v:Int}(P:PyData->Prop)(e:wI x=some ds)(h0:0<=v)(c:v<ds.length)(h:mB P ds)(k:∀d,P d->Q d):jj x (.int v) Q:=.inl (aZ P e h0 c h k)
theorem zz8 (t:X.A.units+1<cLine)(q:oh b)(h:EvD X α a λx=>EvD X α b λy=>jj x y Q):EvD X α (.Subscript a b pos) Q:=by
 refine sS (f:=tOp (λx y H Q=>rIx X.K x y H Q\/zS3 x y H Q)) (vR (zA4.or (zh8 t)) zf zf q) (λ_ _ _=>Iff.rfl) (h.imp λx h=>h.imp λy h=>?_);intro F σ H w u R m j n k;rcases h with⟨ds,i,d,e1,rfl,c,hq⟩|⟨ds,r,d,rfl,rfl,e,hq⟩
 ·cases n.int_inv;cases x with
  |list ds'=>
   cases e1;obtain⟨a,xs,rfl,g,l⟩:=j.lst_inv;obtain⟨v,e,av⟩:=l.atI c;exact .inl (.inl ⟨a,xs,i,v,rfl,rfl,SqL.of (zb g).2,e,k d v H hq m.tp Kz.refl av⟩)
  |tuple ds'=>
   cases e1;obtain⟨a,xs,rfl,g,l⟩:=j.tup_inv;obtain⟨v,e,av⟩:=l.atI c;exact .inl (.inr (.inl ⟨a,xs,i,v,rfl,rfl,SqT.of (zb g).2,e,k d v H hq m.tp Kz.refl av⟩))
  |_=>cases e1
 ·obtain⟨a,o,kvs,rfl,g1,g2⟩:=j.dk_inv;obtain⟨v,p,s⟩:=g2.get e;cases uy n;exact .inr ⟨a,v,rfl,.inl ⟨kvs,r,.inr ⟨o,(zb g1).2⟩,rfl,p.symm⟩,k d v H hq m.tp Kz.refl s⟩
def zf9 (K:PySem.W.Frag)(neg:Bool):R2:=λx y H Q=>rIn K neg x y H Q\/∃a o,y=.ref a/\nC H a x o/\Q (.bl (if neg then !o.isSome else o.isSome)) H
theorem za8 (f:X.A.units+1<cLine):OpR X (compareOp .In) (zf9 X.K false):=λpins s σ H x y v u Q I d c h=>by
 rcases h with h|⟨a,o,rfl,g,q⟩
 ·exact gn pins s σ H x y v u Q I d c h
 ·cases c;exact zV9 f I g d λs' e=>⟨.bl o.isSome,H,e,rfl,q⟩
theorem qQ (f:X.A.units+1<cLine):OpR X (compareOp .NotIn) (zf9 X.K true):=λpins s σ H x y v u Q I d c h=>by
 rcases h with h|⟨a,o,rfl,g,q⟩
 ·exact pM pins s σ H x y v u Q I d c h
 ·cases c;exact zk5 f I g d λs' e=>⟨.bl (!o.isSome),H,e,rfl,q⟩
def qr (X:Cx)(x y:PyData)(Q:Bool->Prop):Prop:=∃k,Cmp (zf9 X.K false) x y k/\Cmp (zf9 X.K true) x y (!k)/\Q k
theorem ink {x:PyData}{ds:List PyData}(f1:vd x=true)(f2:ds.all vd=true)(q:T (inD x ds)):qr X x (.list ds) T:=
 ⟨_,λp H e c R f d h=>.inl (dW (X:=X) (neg:=false) f1 f2 p H e c R f d h),λp H e c R f d h=>.inl (dW (X:=X) (neg:=true) f1 f2 p H e c R f d h),q⟩
theorem zU7 {x:PyData}{ds:List PyData}(f1:vd x=true)(f2:ds.all vd=true)(q:T (inD x ds)):qr X x (.tuple ds) T:=
 ⟨_,λp H e c R f d h=>.inl (iq (X:=X) (neg:=false) f1 f2 p H e c R f d h),λp H e c R f d h=>.inl (iq (X:=X) (neg:=true) f1 f2 p H e c R f d h),q⟩
theorem nR {x:PyData}{ds:List (PyData×PyData)}{k:Key}(e:x=yX k)(q:T (uo ds k).isSome):qr X x (yT ds) T:=by
 subst e;have key:∀(p:Addr->Prop) (H:Hp) (d c:V),AV (sub p H) d (yX k)->AV (sub p H) c (yT ds)->∃a o,c=.ref a/\nC H a d o/\o.isSome=(uo ds k).isSome:=λp H d c g f=>by
  obtain⟨a,o,kvs,rfl,g1,g2⟩:=f.dk_inv;cases uy g;exact⟨a,_,rfl,.inl ⟨kvs,k,.inr ⟨o,(zb g1).2⟩,rfl,rfl⟩,g2.some_iff k⟩
 refine⟨_,λp H d c R g f h=>?_,λp H d c R g f h=>?_,q⟩
 ·obtain⟨a,o,e1,i,j⟩:=key p H d c g f;exact .inr ⟨a,o,e1,i,by rw[if_neg (by decide),j];exact h⟩
 ·obtain⟨a,o,e1,i,j⟩:=key p H d c g f;exact .inr ⟨a,o,e1,i,by rw[if_pos rfl,j];exact h⟩
theorem zG2 (d:X.A.units+1<cLine)(h:EvD X α a λx=>EvD X α b λy=>qr X x y T)(hm:behindInMarks .In b=false:=by rfl):EvT X α (.Compare a [.In] [b] pos) T:=
 xT (za8 d) hm (h.imp λx h=>h.imp λy c=>by obtain⟨k,e,_,q⟩:=c;exact⟨k,e,q⟩)
theorem zg2 (d:X.A.units+1<cLine)(h:EvD X α a λx=>EvD X α b λy=>qr X x y λk=>T (!k))(hm:behindInMarks .NotIn b=false:=by rfl):EvT X α (.Compare a [.NotIn] [b] pos) T:=
 xT (qQ d) hm (h.imp λx h=>h.imp λy c=>by obtain⟨k,_,e,q⟩:=c;exact⟨!k,e,q⟩)
theorem zE5 (d:X.A.units+1<cLine)(h:EvD X α a λx=>EvD X α b λy=>qr X x y λk=>Q (.bool k))(hm:behindInMarks .In b=false:=by rfl):EvD X α (.Compare a [.In] [b] pos) Q:=
 kI (za8 d) hm (h.imp λx h=>h.imp λy c=>by obtain⟨k,e,_,q⟩:=c;exact⟨k,e,q⟩)
theorem zj3 (d:X.A.units+1<cLine)(h:EvD X α a λx=>EvD X α b λy=>qr X x y λk=>Q (.bool (!k)))(hm:behindInMarks .NotIn b=false:=by rfl):EvD X α (.Compare a [.NotIn] [b] pos) Q:=
 kI (qQ d) hm (h.imp λx h=>h.imp λy c=>by obtain⟨k,_,e,q⟩:=c;exact⟨!k,e,q⟩)
end
theorem zG.few {k:Nat}{A:Around}(h:zG k A):A.units+70<cLine:=by have:=h.un;lia
theorem zG.one {k:Nat}{A:Around}(h:zG k A):A.units+1<cLine:=by have:=h.units;exact zW6 this
section
variable {X:Cx}{α:Ev}{E:yi}{rest body:List Stmt}{e c tg iter:Expr}{pos p:Pos}
theorem yh (pat:Pat)(h:EvI X α tg iter λds=>wM X pat body rest E ds α)(f:X.N.Nodup:=by assumption)(d:PassesOwn (model X.prog X.w) X.A X.env X.xe:=by exact ye1)(b:X.calm=true:=by rfl)
  (hg:PG X tg (qt X.K pat):=by first|exact ya (by assumption) rfl (Or.inl rfl)|exact ya (by assumption) rfl (Or.inr rfl)|exact vj rfl rfl (by repeat (first|exact uF|refine wC (by first|exact ya (by assumption) rfl (Or.inl rfl)|exact ya (by assumption) rfl (Or.inr rfl)) ?_)))
  (a:∀x,foldedSetIterable iter X.env x=pure x:=by intro _;rfl):SvS X α (.For tg iter body [] pos::rest) E:=lO d b hg h a
def freeOk (xs:Scope)(y:Str×NameKind):Bool:=match y.2 with
 |.free=>match xs.names.lookup y.1 with
  |some .cell=>true
  |some .free=>true
  |_=>false
 |_=>true
theorem rQ {xs scope:Scope}(h:scope.names.all (freeOk xs)=true):∀y∈scope.names,y.2=.free->xs.names.lookup y.1=some .cell\/xs.names.lookup y.1=some .free:=λy hy e=>by
 have:=ya5.mp h y hy;unfold freeOk at this;rw[e]at this;cases z:xs.names.lookup y.1 with
 |none=>rw[z]at this;cases this
 |some k=>
  rw[z]at this;cases k<;>first|exact .inl rfl|exact .inr rfl|cases this
theorem yz (N:List Str)(imp:List (Option Nat))(pat:Pat){scope:Scope}{elt:Expr}{ifs:List Expr}{Q:List PyData->Prop}(h:EvI X α tg iter λds=>ds.length<=1000/\yZ (λC s2 b fp=>X.comp N scope C s2 b fp) pat ifs elt (yD imp α) ds [] Q)
  (nd:N.Nodup:=by decide +kernel) (f:scope.kind=.function:=by rfl) (n:∀y∈scope.names,y.2≠.cell:=by decide +kernel) (l:∀y∈scope.names,y.2=.local->scope.names.lookup y.1=some .local:=by decide +kernel) (g:scope.names.all (freeOk X.env.scope)=true:=by rfl) (o:imp.length=N.length:=by rfl)
  (i:((imp.zip N).all λp=>match p.1 with|none=>true|some j=>X.N[j]? == some p.2&&scope.names.lookup p.2 == some .free)=true:=by rfl) (a:pat.free (yD imp α)=true:=by rfl)
  (hg:∀C s2 b fp,N.Nodup->PG (X.comp N scope C s2 b fp) tg (qt X.K pat):=by intro _ _ _ _ d;first|exact ya d rfl (Or.inl rfl)|exact vj rfl rfl (by repeat (first|exact uF|refine wC (ya d rfl (Or.inl rfl)) ?_)))
  (m:X.calm=true:=by rfl) (k:∀x,foldedSetIterable iter X.env x=pure x:=by intro _;rfl):EvL X α (.ListComp elt [⟨tg,iter,ifs,0⟩] scope pos) Q:=zy0 m ⟨f,nd,n,l,rQ g,o,i⟩ a (λC s2 b fp=>hg C s2 b fp nd) h k
theorem tf (i:Nat)(N:List Str)(imp:List (Option Nat))(pat:Pat){x:Str}{pos' a:Pos}{scope:Scope}{elt:Expr}{ifs:List Expr}(h:EvI X α tg iter λds=>ds.length<=1000/\yZ (λC s2 f fp=>X.comp N scope C s2 f fp) pat ifs elt (yD imp α) ds [] λds=>SvS X (α.set i (some (.own ds))) rest E)
  (u:X.N.Nodup:=by assumption)
  (nd:N.Nodup:=by decide +kernel) (k:scope.kind=.function:=by rfl) (s:∀y∈scope.names,y.2≠.cell:=by decide +kernel) (o:∀y∈scope.names,y.2=.local->scope.names.lookup y.1=some .local:=by decide +kernel) (r:scope.names.all (freeOk X.env.scope)=true:=by rfl) (t:imp.length=N.length:=by rfl)
  (m:((imp.zip N).all λp=>match p.1 with|none=>true|some j=>X.N[j]? == some p.2&&scope.names.lookup p.2 == some .free)=true:=by rfl) (b:pat.free (yD imp α)=true:=by rfl)
  (hg:∀C s2 f fp,N.Nodup->PG (X.comp N scope C s2 f fp) tg (qt X.K pat):=by intro _ _ _ _ d;first|exact ya d rfl (Or.inl rfl)|exact vj rfl rfl (by repeat (first|exact uF|refine wC (ya d rfl (Or.inl rfl)) ?_)))
  (q:X.calm=true:=by rfl)
  (hi:X.N[i]?=some x:=by rfl) (l:Loc X.env.scope x:=by first|exact Or.inl rfl|exact Or.inr rfl) (g:swapsWith (.ListComp elt [⟨tg,iter,ifs,0⟩] scope a) (some (.Name x pos')) pos.line X.env=pure true:=by rfl)
  (hf:X.fn x=true\/X.env.scope.names.lookup x=some .local:=by first|exact .inl rfl|exact .inr rfl|assumption) (n:∀x,foldedSetIterable iter X.env x=pure x:=by intro _;rfl):
  SvS X α (.Assign [.Name x pos'] (.ListComp elt [⟨tg,iter,ifs,0⟩] scope a) pos::rest) E:=zz5 i u q ⟨k,nd,s,o,rQ r,t,m⟩ b (λC s2 f fp=>hg C s2 f fp nd) h hi l g hf n
end
section
variable {Y:Addr->Shared->Hp->List Addr->Cx}{pat:Pat}{ifs:List Expr}{elt:Expr}{α0:Ev}{ι:Type}{g f:ι->PyData}{l:List ι}{acc:List PyData}{Q:List PyData->Prop}
theorem yL (p:ι->Bool)(f:ι->PyData)(h:∀x∈l,∃a,pat.bind (g x) α0=some a/\(∀C s2 b fp (Q:Bool->Prop),Q (p x)->eB (Y C s2 b fp) a ifs Q)/\(p x=true->∀C s2 b fp (Q:PyData->Prop),Q (f x)->EvD (Y C s2 b fp) a elt Q))
  (hd:Q (acc++(l.filter p).map f)):yZ Y pat ifs elt α0 (l.map g) acc Q:=by
 induction l generalizing acc with
 |nil=>
  show Q acc;simpa using hd
 |cons d ds j=>
  obtain⟨a,e,i,k⟩:=h d zY9;refine⟨a,e,λC s2 b fp=>i C s2 b fp _ ?_⟩;have c:=λacc=>j (acc:=acc) λd hd=>h d (zY5 _ hd);cases hp:p d with
  |true=>
   rw[if_pos rfl];refine λC s2 b fp=>k hp C s2 b fp _ (c _ ?_);simpa[yc6,hp]using hd
  |false=>
   rw[if_neg (by decide)];refine c _ ?_;simpa[yc6,hp]using hd
theorem zS (f:ι->PyData)(b:∀x∈l,∃a,pat.bind (g x) α0=some a/\∀C s2 e fp (Q:PyData->Prop),Q (f x)->EvD (Y C s2 e fp) a elt Q)(hd:Q (acc++l.map f)):yZ Y pat [] elt α0 (l.map g) acc Q:=
 yL (λ_=>true) f (λx d=>by
  obtain⟨a,c,h⟩:=b x d;exact⟨a,c,λ_ _ _ _ _ k=>kF k,λ_=>h⟩) (by rw[List.filter_eq_self.mpr λ_ _=>rfl];exact hd)
end
abbrev Part :=Int×Int×Nat
abbrev Way :=Int×Int×Option Part
section
variable {co:Co}{N:Nat}
def ltQ (x y:Part):Bool:=decide (x.1<y.1)||(decide (x.1=y.1)&&(decide (x.2.1<y.2.1)||(decide (x.2.1=y.2.1)&&decide (x.2.2<y.2.2))))
def ltP (x y:Int×Part):Bool:=decide (x.1<y.1)||(decide (x.1=y.1)&&ltQ x.2 y.2)
def zH0 :List (Int×Part)->Int×Part
 |[]=>(0,0,0,0)
 |d::ds=>ds.foldl (λb x=>if ltP x b=true then x else b) d
theorem zL1 {x y:Int×Part}(h:ltP x y=true):x.1<=y.1:=by
 unfold ltP at h;simp only[ya9,z07,z50]at h
 lia
theorem zK9 {x y:Int×Part}(h:¬ltP x y=true):y.1<=x.1:=by
 unfold ltP at h;simp only[ya9,z07,z50,not_or]at h;exact Int.not_lt.1 h.1
theorem zy9 :∀(ds:List (Int×Part)) (d:Int×Part),(ds.foldl (λb x=>if ltP x b=true then x else b) d=d\/ds.foldl (λb x=>if ltP x b=true then x else b) d∈ds)/\(ds.foldl (λb x=>if ltP x b=true then x else b) d).1<=d.1/\∀x∈ds,(ds.foldl (λb x=>if ltP x b=true then x else b) d).1<=x.1
 |[],d=>⟨.inl rfl,yf8 _,λx a=>by simp at a⟩
 |y::ds,d=>by
  rw[yh3];obtain⟨g,c,f⟩:=zy9 ds (if ltP y d=true then y else d);by_cases h:ltP y d=true
  ·rw[if_pos h]at g c f ⊢;have:=zL1 h;refine⟨.inr ?_,(Int.le_trans c this),λx a=>?_⟩
   ·rcases g with e|e
    ·rw[e];exact zY9
    ·exact zY5 _ e
   ·rcases zY2.mp a with rfl|a
    ·exact c
    ·exact f x a
  ·rw[if_neg h]at g c f ⊢;have:=zK9 h;refine⟨g.imp id λe=>zY5 _ e,c,λx a=>?_⟩;rcases zY2.mp a with rfl|a
   ·exact Int.le_trans c this
   ·exact f x a
theorem aQ {ds:List (Int×Part)}(h:ds≠[]):zH0 ds∈ds:=by
 cases ds with
 |nil=>exact absurd rfl h
 |cons d ds=>
  rcases(zy9 ds d).1 with e|e
  ·show List.foldl _ d ds∈_;rw[e];exact zY9
  ·exact zY5 _ e
def yF (W:List Way)(d:Int):Option (Int×Option Part):=(W.find? λw=>decide (w.1=d)).map (·.2)
theorem find_some {W:List Way}{d:Int}{x:Int}{l:Option Part}(h:yF W d=some (x,l)):(d,x,l)∈W:=by
 unfold yF at h;obtain⟨w,hw,e⟩:=zZ3.mp h;have a:=yh4 hw;rw[z50]at a;have b:=ya4 hw;rw[show(d,x,l)=w by rw[<-a,<-e]];exact b
def zd3 (W:List Way):List Int:=W.map (·.2.1)
def oV (W:List Way)(hi:Int)(d:Int):Int:=match yF W d with
 |some (x,_)=>x
 |none=>hi
end
theorem zo3 :∀{zs:List Int}{z:Int},z∈zs->z<=tP zs:=by
 intro zs z h;cases zs with
 |nil=>simp at h
 |cons d ds=>
  have key:∀(l:List Int) (m:Int),m<=l.foldl (λb x=>if b<x then x else b) m/\∀y∈l,y<=l.foldl (λb x=>if b<x then x else b) m:=by
   intro l
   induction l with
   |nil=>exact λm=>⟨yf8 _,λy hy=>by simp at hy⟩
   |cons x l c=>
    intro m;rw[yh3];obtain⟨a,e⟩:=c (if m<x then x else m);have hm:m<=(if m<x then x else m)/\x<=(if m<x then x else m):=by split<;>lia
    refine⟨(Int.le_trans hm.1 a),λy hy=>?_⟩;rcases zY2.mp hy with rfl|hy
    ·exact Int.le_trans hm.2 a
    ·exact e y hy
  have:=key ds d;rcases zY2.mp h with rfl|h
  ·exact this.1
  ·exact this.2 z h
theorem fB (ds:List PyData){a:Int}(h:0<=a):cutD ds (some a) none=ds.drop a.toNat:=by
 obtain⟨n,rfl⟩:=ya7 h;unfold cutD;rw[HT.iK,HT.rR,yf5];rcases Nat.le_total n ds.length with z|z
 ·rw[Nat.min_eq_left z,yb2 (by rw[yc3];exact zY3 _)]
 ·rw[Nat.min_eq_right z,List.drop_eq_nil_of_le (zY3 _),List.drop_eq_nil_of_le z,List.take_nil]
theorem iE (ds:List PyData){a:Int}(h:0<=a):cutD ds none (some a)=ds.take a.toNat:=by
 obtain⟨n,rfl⟩:=ya7 h;unfold cutD;rw[HT.iK,HT.rR,yf5,List.drop_zero,Nat.sub_zero];rcases Nat.le_total n ds.length with z|z
 ·rw[Nat.min_eq_left z]
 ·rw[Nat.min_eq_right z,yb2 (zY3 _),yb2 z]
theorem eW (ds:List PyData):cutD ds none (some (-1))=ds.take (ds.length-1):=by
 unfold cutD;rw[HT.rR];have:HT.sIx ds.length ds.length (some (-1))=ds.length-1:=by
  show(if(-1:Int)<0 then((-1:Int)+(ds.length:Int)).toNat else min (-1:Int).toNat ds.length)=_;rw[if_pos (by decide)]
  lia
 rw[this,List.drop_zero,Nat.sub_zero]
theorem aY (f:Int->Int)(c:Int)(n:Nat):cV (cutD (((zw c (n+1)).map f).map PyData.int) none (some (-1))) (cutD (((zw c (n+1)).map f).map PyData.int) (some 1) none)=(zw c n).map λd=>.tuple [.int (f d),.int (f (d+1))]:=by
 rw[eW,fB _ (by decide)];unfold cV;refine List.ext_getElem? λj=>?_;rw[List.getElem?_zipWith];simp only[zX8,zl,List.getElem?_take,List.getElem?_drop,zY7];by_cases h:j<n
 ·rw[if_pos (by omega),yA (by lia),yA h,show(1:Int).toNat+j=j+1 from by rw[Nat.add_comm];rfl,yA (by lia)];show some _=some _;rw[show c+((j+1:Nat):Int)=c+(j:Nat)+1 by omega]
 ·rw[if_neg (by omega),yb8 (l:=zw c n) (by rw[zl];exact z72 h)];rfl
section
variable {co:Co}{N:Nat}
def zQ5 (W:List Way):Int:=tP (zd3 W)
def hW (W:List Way)(d:Int):Int:=oV W (zQ5 W) d
theorem zm2 {W:List Way}{d x:Int}{l:Option Part}(h:yF W d=some (x,l)):hW W d=x:=by unfold hW oV;rw[h]
theorem zn2 {W:List Way}{d:Int}(h:yF W d=none):hW W d=zQ5 W:=by unfold hW oV;rw[h]
def wU (p:Part):PyData:=.tuple [.int p.1,.int p.2.1,.int p.2.2]
def dC :Option Part->PyData
 |none=>.none
 |some p=>wU p
def tQ (w:Way):PyData×PyData:=(.int w.1,.tuple [.int w.2.1,dC w.2.2])
def vX (p:Int×Part):PyData:=.tuple [.int p.1,wU p.2]
theorem yY (d:Int):∀W:List Way,uo (W.map tQ) (.inl d)=(yF W d).map λp=>.tuple [.int p.1,dC p.2]
 |[]=>rfl
 |w::W=>by
  rw[z02];unfold tQ;rw[uo];unfold yF;rw[z59];show(if decide (w.1=d)=true then _ else _)=_;by_cases h:w.1=d
  ·rw[z26 h,if_pos rfl];rfl
  ·rw[z06 h,if_neg (by decide)];exact yY d W
theorem bK {W:List Way}{d x:Int}{l:Option Part}(h:yF W d=none):putD (W.map tQ) (.inl d) (.tuple [.int x,dC l])=(W++[(d,x,l)]).map tQ:=by
 unfold putD;rw[yY,h,Option.map_none,if_neg (by decide),z55];rfl
theorem eX (p q:Part):PyData.eqv (wU p) (wU q)=decide (p=q):=by
 obtain⟨a,b,n⟩:=p;obtain⟨e,d,c⟩:=q;have:PyData.eqv (wU (a,b,n)) (wU (e,d,c))=(decide (a=e)&&(decide (b=d)&&(decide ((n:Int)=c)&&true))):=by
  rw[<-uB,<-uB,<-uB];rfl
 rw[this];by_cases g:a=e<;>by_cases h:b=d<;>by_cases f:n=c<;>simp[g,h,f]<;>lia
theorem zj7 (p q:Part):ltD (wU p) (wU q)=some (ltQ p q):=by
 obtain⟨a,b,n⟩:=p;obtain⟨i,g,c⟩:=q;unfold wU ltD;simp only[kL,uB,ltQ];by_cases e:a=i
 ·subst e;by_cases f:b=g
  ·subst f;by_cases d:(n:Int)=c
   ·have:n=c:=(zW1 d);subst this;simp
   ·simp only[decide_true,ya8,z06 d,z34,z87,ltD,Int.lt_irrefl,decide_false,yg1,yg0];rw[show decide ((n:Int)<c)=decide (n<c) by by_cases h:n<c<;>simp[h]]
  ·simp only[decide_true,ya8,z06 f,z34,z87,ltD,Int.lt_irrefl,decide_false,yg1,yg0,yb4,yd0]
 ·simp only[z06 e,z34,z87,ltD,yb4,yd0]
theorem bX (p q:Int×Part):ltD (vX p) (vX q)=some (ltP p q):=by
 obtain⟨z,p⟩:=p;obtain⟨y,q⟩:=q;unfold vX ltD;simp only[kL,uB,ltP,eX];by_cases b:z=y
 ·subst b;by_cases a:p=q
  ·subst a;simp[ltQ]
  ·simp only[decide_true,ya8,z06 a,z34,z87,zj7,Int.lt_irrefl,decide_false,yg1,yg0]
 ·simp only[z06 b,z34,z87,ltD,yb4,yd0]
theorem zp6 :∀{ds:List (Int×Part)},ds≠[]->minD (ds.map vX)=vX (zH0 ds)
 |[],h=>absurd rfl h
 |d::ds,_=>by
  show List.foldl _ (vX d) (ds.map vX)=vX (List.foldl _ d ds);rename_i b;clear b
  induction ds generalizing d with
  |nil=>rfl
  |cons x ds a=>
   rw[z02,yh3,yh3,bX];show List.foldl _ (if ltP x d=true then vX x else vX d) _=_;rw[<-a];split<;>rfl
theorem ze4 (ds:List (Int×Part)):zC5 (ds.map vX):=λx a y hy=>by
 obtain⟨p,_,rfl⟩:=z47.mp a;obtain⟨q,_,rfl⟩:=z47.mp hy;rw[bX];rfl
end
section
variable {X:Cx}{α:Ev}{a b e:Expr}{pos p:Pos}{Q:PyData->Prop}
end
section
variable {X:Cx}{α:Ev}{a b c e:Expr}{pos p:Pos}{Q:PyData->Prop}{T:Bool->Prop}
theorem bQ (h:EvD X α a λx=>EvD X α b λy=>∃i j,x=.int i/\y=.int j/\(if decide (i<=j)=true then EvD X α c λz=>∃k,z=.int k/\Q (.bool (decide (j<=k)))else Q (.bool false)))(hm:lastMarks [.LtE,.LtE] [b,c]=false:=by rfl):EvD X α (.Compare a [.LtE,.LtE] [b,c] pos) Q:=zc6 cJ cJ hm h
end
section
variable {X:Cx}{α:Ev}{a b c e:Expr}{pos p p2 pos2:Pos}{Q:PyData->Prop}{T:Bool->Prop}
end
section
variable {X:Cx}{α:Ev}{a b c d e:Expr}{pos p:Pos}{ta tb tc td:TE}{T:Bool->Prop}
end
section
variable {X:Cx}{α:Ev}{a b c d e:Expr}{pos p:Pos}{T:Bool->Prop}
end
abbrev nH (X:Cx)(P:Program)(w:World)(K:PySem.W.Frag)(mg:Str->Option Value)(base:Heap):Prop:=X.prog=P/\X.w=w/\X.K=K/\X.mg=mg/\X.base=base
section
variable {X:Cx}{α:Ev}{e o:Expr}{es:List Expr}{pos p apos:Pos}{Q:PyData->Prop}{k:Nat}{φ:List A->(A->Prop)->Prop}{x m:Str}{C:Addr}{pl:Sem Bool}{P:Program}{w:World}{K:PySem.W.Frag}{mg:Str->Option Value}{base:Heap}
theorem zh1 (D:Cal P w K mg base x k φ)(c:nH X P w K mg base)(hr:zG k X.A)(hg:Gl X x)(h:EvA X α (e::es) λas=>φ as λa=>Q a.d)
  (b:(x == ("__debug__":Str))=false:=by decide) (he:starEach (e::es) X.env=(false,eval e X.env)::starEach es X.env:=by rfl) (hpl:(backTo pos (starEach es X.env)).any (·.1)=false:=by rfl):EvD X α (.Call (.Name x p) (e::es) [] pos) Q:=by
 obtain⟨rfl,rfl,rfl,rfl,rfl⟩:=c;exact yo D hr hg h b he hpl
theorem zj2 {Q:List PyData->Prop}(D:Cal P w K mg base x k φ)(c:nH X P w K mg base)(hr:zG k X.A)(hg:Gl X x)(h:EvA X α (e::es) λas=>φ as λa=>∃ds,a=.own ds/\Q ds)
  (b:(x == ("__debug__":Str))=false:=by decide) (he:starEach (e::es) X.env=(false,eval e X.env)::starEach es X.env:=by rfl) (hpl:(backTo pos (starEach es X.env)).any (·.1)=false:=by rfl):EvL X α (.Call (.Name x p) (e::es) [] pos) Q:=by
 obtain⟨rfl,rfl,rfl,rfl,rfl⟩:=c;exact xY D hr hg h b he hpl
theorem aK (D:ur P w K mg base x k [] φ)(c:nH X P w K mg base)(hr:zG (k+1) X.A)(hg:Gl X x)(h:EvA X α (e::es) λas=>φ as λa=>Q a.d)
  (b:(x == ("__debug__":Str))=false:=by decide) (he:starEach (e::es) X.env=(false,eval e X.env)::starEach es X.env:=by rfl) (hpl:(backTo pos (starEach es X.env)).any (·.1)=false:=by rfl):EvN X α (.Call (.Name x p) (e::es) [] pos) Q:=by
 obtain⟨rfl,rfl,rfl,rfl,rfl⟩:=c;exact pC D hr hg h b he hpl
theorem dE (D:xJ P w K mg base C m k φ)(c:nH X P w K mg base)(hr:zG k X.A)(h:EvD X α o λx=>∃fs,x=vb C fs/\rF fs m=none/\EvA X α (e::es) λas=>φ (.dat (vb C fs)::as) λa=>Q a.d)
  (b:starEach (e::es) X.env=(false,eval e X.env)::starEach es X.env:=by rfl) (hpl:(backTo pos (starEach es X.env)).any (·.1)=false:=by rfl)
  (g:eval (.Call (.Attribute o m apos) (e::es) [] pos) X.env=(do
   let ov <-eval o X.env
   standAt apos.atName
   let(f,first) <-holding [ov] (getMethod ov m pl)
   callWith pos f first (backTo pos (starEach (e::es) X.env)) (backToKw pos (keywordEach [] X.env))):=by rfl):EvD X α (.Call (.Attribute o m apos) (e::es) [] pos) Q:=by
 obtain⟨rfl,rfl,rfl,rfl,rfl⟩:=c;exact pI D hr h b hpl g
theorem gu (D:xJ P w K mg base C m k φ)(b:nH X P w K mg base)(hr:zG k X.A)(h:EvD X α o λx=>∃fs,x=vb C fs/\rF fs m=none/\φ [.dat (vb C fs)] λa=>Q a.d)
  (c:eval (.Call (.Attribute o m apos) [] [] pos) X.env=(do
   let ov <-eval o X.env
   standAt apos.atName
   let(f,first) <-holding [ov] (getMethod ov m pl)
   callWith pos f first (backTo pos (starEach [] X.env)) (backToKw pos (keywordEach [] X.env))):=by rfl):EvD X α (.Call (.Attribute o m apos) [] [] pos) Q:=by
 obtain⟨rfl,rfl,rfl,rfl,rfl⟩:=b;exact rN D hr h c
end
section
variable {X:Cx}{α:Ev}{pos:Pos}{Q:PyData->Prop}
end
section
variable {X:Cx}{α:Ev}{e ix:Expr}{pos:Pos}{rest:List Stmt}{E:yi}
end
section
variable {X:Cx}{tg:Expr}
variable {α:Ev}{a b c:Expr}{p pos:Pos}
end
theorem zL5 :typeLookup (.type "list") "keys"=pure none:=by rw[yd9,ya1];kernel_rfl
theorem gC {prog:Program}{w:World}{A:Around}{E:Value->Shared->Prop}{s:Shared}{a:Addr}{xs:Array Value}{k:Nat}{Q:Option Value->Shared->Prop}
  (i:s.heap.get? a=some {cls:=.type "list",data:=.seq xs k}) (l:A.handled=none)
  (h:∀h' tk,(∀b o,s.heap.get? b=some o->h'.get? b=some o)->Q none {s with heap:=h',toks:=tk}):
  wpAny (model prog w) A (getAttr? (.ref a) "keys") Q E s:=by
 obtain⟨j,g,d,tk,os⟩:=s;have hT:∀f,(⟨j,g,d,f,os⟩:Shared).TypeIs (.ref a) "list":=λ_=>⟨_,i,rfl⟩;have f1:=sub_AttributeError;have m:=ye6.lookup;have f4:=ye6.bind (.ref a);have n:=am_list_getattr_none;unfold getAttr? getAttrBy? getAttrBy
 repeat (any_goals (first|assumption|exact hT _|((with_reducible show wpAny _ _ (call (Value.builtin "list.__getattribute__") _ _) _ _ _);refine call_meets ye6 (hT _) am_entry_list_getattribute (F.args_list_getattribute_2 _ _) (meets_getattribute_miss_list a xs k #[] "keys" _ zL5 (by decide +kernel) (by size_fits)) ⟨i,l,λh' f e c=>?_⟩)|wp_step))
 obtain⟨t',p,he⟩:=c.there;show wpAny _ _ (getattributeRaised _ _ _ _ _ _ _) _ _ _;unfold getattributeRaised
 repeat (any_goals (first|assumption|wp_step))
 exact h _ _ c.of.keeps
theorem uI :plainId "dict.update.loop"=true:=by decide +kernel
theorem mq :entryFor table "dict.update.loop"=some Builtin.«dict.update.loop»:=entryFor_of_fast (by kernel_rfl)
section
variable {prog:Program}{w:World}{K:Type}[DecidableEq K](knd:KeyKind prog w K)
def kg (h:Heap)(u:Value)(x:List K×Addr×Value):Prop:=∃p o n,u=.ref p/\h.get? p=some o/\o.cls=.type "tuple"/\o.data=.seq #[.ref x.2.1,x.2.2] n/\IsTupleKey knd h x.1 x.2.1
variable {knd}
theorem cE {h h':Heap}{ks:List K}{a:Addr}(x:IsTupleKey knd h ks a)(k:∀b o,h.get? b=some o->h'.get? b=some o):IsTupleKey knd h' ks a:=by
 obtain⟨o,items,n,c,d⟩:=x;exact⟨o,items,n,k _ _ c,d⟩
def iD (acc xs:List (List K×Addr×Value)):List (List K×Addr×Value):=xs.foldl (λa x=>storedH a x.1 x.2.1 x.2.2) acc
theorem lF (xs:List (List K×Addr×Value))(k:List K)(a:Addr)(v:Value):(storedH xs k a v).length<=xs.length+1:=by unfold storedH;split<;>simp
theorem lB {h h':Heap}{d it l:Addr}{i:Nat}{acc:List (List K×Addr×Value)}(hd:h.DictOfH (tupleKind knd) d acc)(hne:it≠d)(hit:h.IsListIter it l i)(hk:∀b o,b≠it->h.get? b=some o->h'.get? b=some o):h'.DictOfH (tupleKind knd) d acc:=by
 obtain⟨q,f,m,g1,g2,g3,k,g,j⟩:=hd;refine⟨q,f,m,hk d q (z23 hne) g1,g2,g3,k,λx e=>?_,j⟩;obtain⟨o',items,a,k1,k2,k3,c⟩:=g x e;refine⟨o',items,a,hk _ _ (λz=>?_) k1,k2,k3,c⟩;obtain⟨n,i1,i2,i3⟩:=hit;rw[z,i1]at k1;cases k1;rw[i2]at k2;exact absurd (Value.type.inj k2) (by decide)
theorem zm3 {A:Around}{R:Result->Shared->Prop}{h₀:Heap}{d it l:Addr}{its:List Value}(M:A.units+1<cLine)(H:A.handled=none)(E:h₀.IsList l its.toArray)(g:h₀.get? it=none)(B:h₀.get? d=none)(hne:it≠d):
  ∀(us:List Value) (xs:List (List K×Addr×Value)),Paired (kg knd h₀) us xs->∀(i:Nat) (s:Shared) (acc:List (List K×Addr×Value)) (t:Tok),its.drop i=us->s.heap.IsListIter it l i->(∀b o,h₀.get? b=some o->s.heap.get? b=some o)->
  s.heap.DictOfH (tupleKind knd) d acc->acc.length+us.length<=sizeLine->
  (∀h' tk,(∀b o,h₀.get? b=some o->h'.get? b=some o)->h'.DictOfH (tupleKind knd) d (iD acc xs)->R (.ok (.ret .none)) {s with heap:=h',toks:=tk})->
  codeAny (model prog w) A (.builtin "dict.update.loop" ⟨[.ref d,.ref it,.int i t,.none],[]⟩) R s:=by
 intro us xs F
 induction F with
 |nil=>
  intro i s acc t c hit hk hd hsz C;refine ya0 mq ?_;rw[z73 uI _];show wpAny _ A.in1 (pyNext (.ref it) >>= _) _ _ s;obtain⟨o,y,f,n,j⟩:=E;refine zX6 (wpAny_pyNext_list_end (items:=its.toArray) H hit ⟨o,hk _ _ y,f,n,j⟩ (by rw[yb7,List.getElem?_eq_none_iff];exact List.drop_eq_nil_iff.mp c) λh' he=>?_);show wpAny _ A.in1 (Builtin.Dict.addKeywords d [] >>= _) _ _ _;refine zX6 (zY4 (zY4 ?_));have a:∀b o,h₀.get? b=some o->h'.get? b=some o:=λb o e=>he b o (λz=>by rw[z,g]at e;cases e) (hk b o e);refine C h' s.toks a ?_;exact lB hd hne hit he
 |@cons u x us' xs' hpx _ ih=>
  intro i s acc t c hit hk hd hsz C;obtain⟨p,o,n,rfl,e1,I,O,G⟩:=hpx;refine ya0 mq ?_;rw[z73 uI _];show wpAny _ A.in1 (pyNext (.ref it) >>= _) _ _ s;obtain⟨ol,y,f,nl,j⟩:=id E;refine zX6 (wpAny_pyNext_list_item (items:=its.toArray) hit ⟨ol,hk _ _ y,f,nl,j⟩ (x:=.ref p) (by
   rw[yb7];have:(its.drop i)[0]?=some (Value.ref p):=by rw[c];rfl
   rw[List.getElem?_drop]at this;simpa using this) λh' h r=>?_)
  have a:∀b o,h₀.get? b=some o->h'.get? b=some o:=λb o e=>by rw[r.2 b (λz=>by rw[z,g]at e;cases e)];exact hk b o e
  have hT:(⟨h',s.gens,s.drawn,s.toks,s.os⟩:Shared).TypeIs (.ref p) "tuple":=⟨o,a _ _ e1,I⟩;refine zX6 (z41 ?_);refine zX6 (ye9 ?_);unfold Builtin.Dict.pairItems;refine zX6 (yh1 hT ?_);rw[if_pos (by decide)];refine zX6 (z51 (a _ _ e1) O (zY4 ?_));show wpAny _ A.in1 (holding _ (dictSet d (.ref x.2.1) x.2.2)) _ _ _;refine z41 ?_;have v:h'.DictOfH (tupleKind knd) d acc:=lB hd hne hit λb o hb e=>by rw[r.2 b hb];exact e
  refine wpAny_dictSet_heap (knd:=tupleKind knd) (k:=x.1) (xs:=acc) (show A.units+1<cLine from M) (cE G a) v (λf hd2 q=>?_) (by simp at hsz;exact zY8 (zZ4 _ _) hsz);have D:∀b o,h₀.get? b=some o->f.get? b=some o:=λb o e=>by rw[q.2 b (λz=>by rw[z,B]at e;cases e)];exact a b o e
  refine zY4 ⟨z85 uI _,?_⟩;have m:f.IsListIter it l (i+1):=by
   obtain⟨N,i1,i2,i3⟩:=h;exact⟨N,by rw[q.2 it hne];exact i1,i2,i3⟩
  refine ih (i+1) _ (storedH acc x.1 x.2.1 x.2.2) _ ?_ m D hd2 ?_ λj tk J L=>C j tk J L
  ·rw[<-List.drop_drop,c];rfl
  ·have:=lF acc x.1 x.2.1 x.2.2;simp at hsz;lia
theorem zp7 {A:Around}{E:Value->Shared->Prop}{s:Shared}{l:Addr}{its:List Value}{n:Nat}{xs:List (List K×Addr×Value)}{Q:Value->Shared->Prop}(B:A.units+3<cLine)(j:A.handled=none)
  (g:s.heap.get? l=some {cls:=.type "list",data:=.seq its.toArray n}) (k:Paired (kg knd s.heap) its xs) (hsz:its.length<=sizeLine)
  (h:∀p h' tk,s.heap.objs.size<=p->(∀b o,s.heap.get? b=some o->h'.get? b=some o)->h'.DictOfH (tupleKind knd) p (iD [] xs)->Q (.ref p) {s with heap:=h',toks:=tk}):
  wpAny (model prog w) A (call (.type "dict") [.ref l]) Q E s:=by
 refine callType_codes (Q₁:=λobj c=>obj=.ref s.heap.objs.size/\c={s with heap:=s.heap.push {cls:=.type "dict",data:=.dict #[]}}) F.kt_called_dict (F.kt_typeCall_dict_1 _) F.entry_dict_init (kt_code_dict_new _ ⟨rfl,rfl⟩) ?_;rintro obj c ⟨rfl,rfl⟩;have a:(s.heap.push {cls:=.type "dict",data:=.dict #[]}).DictOfH (tupleKind knd) s.heap.objs.size []:=Heap.DictOfH.new s.heap;have kp:∀b o,s.heap.get? b=some o->(s.heap.push {cls:=.type "dict",data:=.dict #[]}).get? b=some o:=λb o e=>zX7 _ e;have hT:(⟨s.heap.push {cls:=.type "dict",data:=.dict #[]},s.gens,s.drawn,s.toks,s.os⟩:Shared).TypeIs (.ref l) "list":=⟨_,kp _ _ g,rfl⟩;refine⟨a.typeIs,F.args_dict_init_2 _ _,?_⟩;unfold Builtin.«dict.__init__»;refine zX6 ?_;unfold Builtin.Dict.selfAndRest;refine zX6 (wpAny_notOrdered_dict a.typeIs ?_);show wpAny _ _ (pure (s.heap.objs.size,[Value.ref l])) _ _ _;refine zY4 ?_;show wpAny _ _ (Builtin.Dict.updateFrom "dict.__init__" s.heap.objs.size (.ref l) [] .none) _ _ _;unfold Builtin.Dict.updateFrom;refine zX6 (yh1 hT ?_);rw[if_pos (by decide)];refine zX6 (gC (kp _ _ g) j λf v k1=>?_);rw[if_pos (show(none:Option Value).isNone=true from rfl)];refine zX6 (wpAny_rule ?_);have d:∀b o,s.heap.get? b=some o->f.get? b=some o:=λb o e=>k1 b o (kp b o e);refine zX6 (z74 (items:=its.toArray) ⟨_,d _ _ g,rfl,n,rfl⟩ ?_);refine zY4 ⟨z85 uI _,?_⟩;have fr:s.heap.get? s.heap.objs.size=none:=by
  cases q:s.heap.get? s.heap.objs.size with
  |none=>rfl
  |some o=>exact absurd (zY6 q) (z36 _)
 have big:s.heap.objs.size<f.objs.size:=zY6 (k1 _ _ (zZ0 _ rfl));have i:s.heap.get? f.objs.size=none:=by
  cases q:s.heap.get? f.objs.size with
  |none=>rfl
  |some o=>exact absurd (Nat.lt_trans (zY6 q) big) (z36 _)
 refine zm3 (h₀:=s.heap) (its:=its) (A:=A.in1) (by show A.units+1+1<cLine;lia) j ⟨_,g,rfl,n,rfl⟩ i fr (z70 big) its xs k 0 _ [] _ rfl ⟨_,zZ0 _ rfl,rfl,rfl⟩ (λb o e=>zX7 _ (d b o e)) ?_ (by simpa using hsz) ?_
 ·obtain⟨q,r,y,g1,g2,g3,u,z,t⟩:=a;exact⟨q,r,y,zX7 _ (k1 _ _ g1),g2,g3,u,(λx m=>by simp at m),t⟩
 ·intro h' tk hk hd;exact⟨rfl,h _ h' tk (zY3 _) hk hd⟩
end
def vp (acc kvs:List (List Key×V)):List (List Key×V):=kvs.foldl (λa b=>putK a b.1 b.2) acc
def jP (H:Hp)(x:V)(a:List Key×V):Prop:=∃p b,x=.ref p/\H p=some (.tup [.ref b,a.2])/\H b=some (.tup (a.1.map kV))
theorem pd :∀(kvs acc:List (List Key×V)),(vp acc kvs).length<=acc.length+kvs.length
 |[],acc=>zY3 _
 |a::r,acc=>by
  have c:=pd r (putK acc a.1 a.2);have b:=xQ acc a.1 a.2;show(vp (putK acc a.1 a.2) r).length<=_;simp only[z00];exact zP4 c b
def qg {β:Type}(kvs:List (List Key×β))(k:List Key):Bool:=kvs.any λp=>decide (p.1=k)
theorem qT {β a:Type}{k:List Key}:∀{xs:List (List Key×β)}{ys:List (List Key×a)},xs.map Prod.fst=ys.map Prod.fst->qg xs k=qg ys k
 |[],[],_=>rfl
 |[],_::_,h=>by simp at h
 |_::_,[],h=>by simp at h
 |x::xs,y::ys,h=>by
  simp only[z02,List.cons.injEq]at h;have:=qT (k:=k) h.2;unfold qg at this ⊢;rw[z84,z84,this,h.1]
theorem ph (k:List Key):∀(kvs acc:List (List Key×V)),(yM (vp acc kvs) k).isSome=((yM acc k).isSome||qg kvs k)
 |[],acc=>by simp[vp,qg]
 |a::r,acc=>by
  show(yM (vp (putK acc a.1 a.2) r) k).isSome=_;rw[ph k r,dQ];by_cases e:k=a.1
  ·rw[if_pos e];simp[e,qg]
  ·rw[if_neg e];have b:¬a.1=k:=λz=>e z.symm;simp[qg,b]
theorem qJ {P:V->Prop}:∀(kvs acc:List (List Key×V)),(∀a∈acc,P a.2)->(∀a∈kvs,P a.2)->∀a∈vp acc kvs,P a.2
 |[],acc,h,_=>h
 |a::r,acc,h,h'=>by
  refine qJ r (putK acc a.1 a.2) (λq hq=>?_) λq hq=>h' q (zY5 _ hq);unfold putK at hq;split at hq
  ·obtain⟨z,hz,rfl⟩:=z47.mp hq;split
   ·exact h' a zY9
   ·exact h z hz
  ·rcases z05.mp hq with hq|hq
   ·exact h q hq
   ·cases zZ1.mp hq;exact h' a zY9
theorem KT.fold {H:Hp}:∀{kvs:List (List Key×V)}{xs:List (List Key×Addr×Value)}{acc:List (List Key×V)}{ys:List (List Key×Addr×Value)},KT H kvs xs->KT H acc ys->KT H (vp acc kvs) (iD ys xs):=by
 intro kvs xs acc ys r
 induction r generalizing acc ys with
 |nil=>exact λh=>h
 |@cons p q ps qs hq t ih=>
  intro h;obtain⟨k,b,v⟩:=q;obtain⟨e1,c,d⟩:=hq;have a:p.1=k:=e1;subst a;exact ih (KT.put h p.1 c d)
section
variable {X:Cx}
theorem bu {pins:List (Addr×Obj)}{σ:St}{H:Hp}{s:Shared}(I:Inv X pins σ H s):∀{ps:List V}{kvs:List (List Key×V)}{its:List Value},Paired (jP H) ps kvs->Vals ps its->∃xs,KT H kvs xs/\Paired (kg (zJ X.prog X.w) s.heap) its xs:=by
 intro ps kvs its r
 induction r generalizing its with
 |nil=>intro h;cases h;exact⟨[],.nil,.nil⟩
 |@cons x kv ps kvs hx t ih=>
  intro h;cases h with
  |@cons _ u _ us r1 r2=>
   obtain⟨xs,c,d⟩:=ih r2;obtain⟨p,b,rfl,e1,a⟩:=hx;cases r1;obtain⟨_,its,e,o,g1,g2,n,g3⟩:=(show zD X.prog X.w H s.heap p (.tup [.ref b,kv.2])from I.hok p _ e1);cases e with
   |@cons _ u1 _ us1 a1 a2=>
    cases a1;cases a2 with
    |@cons _ u2 _ us2 a3 a4=>
     cases a4;refine⟨(kv.1,b,u2)::xs,.cons ⟨rfl,a,a3⟩ c,.cons ⟨p,o,n,rfl,g1,g2,g3,?_⟩ d⟩;exact uJ I.hok a
theorem jh (i:X.calm=true)(x:X.A.units+3<cLine):xi X (.type "dict") (λxs H Q=>∃(l:Addr) (ps:List V) (kvs:List (List Key×V)),xs=[.ref l]/\H l=some (.lst ps)/\Paired (jP H) ps kvs/\∀p,H p=none->∀o,Q (.ref p) (upd H p (.frz o (.dT (vp [] kvs))))):=by
 intro pins s σ H xs us Q I r h;obtain⟨l,ps,kvs,rfl,j,d,q⟩:=h;obtain⟨u,rfl,m⟩:=vals1 r;cases m;obtain⟨z,its,n,f,hg⟩:=(show zD X.prog X.w H s.heap l (.lst ps)from I.hok l _ j);obtain⟨xs,kt,v⟩:=bu I d f;have hlen:kvs.length=ps.length:=d.length.symm;refine zp7 (knd:=zJ X.prog X.w) x (I.ok.hd i) hg v (by rw[<-f.length];exact z) λp h' tk c hk hd=>?_;obtain⟨o,g,y,g1,g2,g3,t,B,k⟩:=hd;have hn:H p=none:=I.hok.fresh c;refine⟨.ref p,_,I.laid (a:=p) (o:=.frz o (.dT (vp [] kvs))) (t':=tk) hk c ⟨g1,?_,?_,iD [] xs,?_,o,g,y,g1,g2,g3,t,k⟩,rfl,q p hn o⟩
 ·have:=pd kvs [];simp at this;exact zY8 this (zY8 (zZ7 hlen) z)
 ·exact z79.mpr (z23 (z01 (zX9 I.big c)))
 ·exact KT.keeps (KT.fold kt .nil) λb ys e=>by rw[zc (zk e hn)];exact e
end
abbrev tN (ds:List (PyData×PyData)):PyData:=.dict ((.none,.bool true)::ds)
def rE (k:List Key):PyData:=.tuple (k.map yX)
noncomputable def inT (ds:List (PyData×PyData))(k:List Key):Bool:=open Classical in decide (∃d,(rE k,d)∈ds)
theorem aS {a b:Key}(h:yX a=yX b):a=b:=by
 cases a<;>cases b<;>simp[yX]at h<;>rw[h]
theorem ze2 {a b:List Key}(h:rE a=rE b):a=b:=by
 unfold rE at h;injection h with h
 induction a generalizing b with
 |nil=>cases b with
  |nil=>rfl
  |cons _ _=>simp at h
 |cons x a c=>cases b with
  |nil=>simp at h
  |cons y b=>
   simp only[z02,List.cons.injEq]at h;rw[aS h.1,c h.2]
theorem AVt.some_iff {H:Hp}:∀{kvs:List (List Key×V)}{ds:List (PyData×PyData)} (_:AVt H kvs ds) (k:List Key),(yM kvs k).isSome=inT ds k
 |_,_,.nil,k=>by simp[yM,inT]
 |_,_,.cons (k:=k') (x:=x) (fs:=fs) (d:=d) (ds:=ds) a r,k=>by
  have b:=AVt.some_iff r k;unfold inT at b ⊢;by_cases e:k'=k
  ·rw[yd (p:=(k',x)) e];subst e
   symm
   simp only[Option.isSome_some,z50];exact⟨d,zY9⟩
  ·rw[zU (p:=(k',x)) e,b]
   congr 1
   apply propext
   constructor
   ·rintro⟨d',h⟩;exact⟨d',zY5 _ h⟩
   ·rintro⟨d',h⟩;rcases zY2.mp h with h|h
    ·have:=congrArg Prod.fst h;exact absurd (ze2 (show rE k=rE k' from this)).symm e
    ·exact⟨d',h⟩
theorem cY {G:Hp}:∀(kvs:List (List Key×V)),(∀c∈kvs,∃d,AV G c.2 d)->∃ds,AVt G kvs ds
 |[],_=>⟨[],.nil⟩
 |(k,v)::r,h=>by
  obtain⟨d,hd⟩:=h (k,v) zY9;obtain⟨ds,a⟩:=cY r λc b=>h c (zY5 _ b);exact⟨_,.cons hd a⟩
theorem AV.dt_inv {H:Hp}{v:V}{ds:List (PyData×PyData)}(h:AV H v (tN ds)):∃a o kvs,v=.ref a/\H a=some (.frz o (.dT kvs))/\AVt H kvs ds:=by
 cases h with
 |dt b c=>exact⟨_,_,_,rfl,b,c⟩
theorem iP {H:Hp}{v:V}{k:List Key}(h:AV H v (rE k)):∃b,v=.ref b/\H b=some (.tup (k.map kV)):=by
 unfold rE at h;cases h with
 |@tup a xs _ h1 h2=>
  refine⟨a,rfl,?_⟩;rw[h1]
  congr 2
  clear h1
  induction k generalizing xs with
  |nil=>cases h2;rfl
  |cons x k c=>
   cases h2 with
   |cons d e=>rw[uy d,c e];rfl
def prD (p:List Key×PyData):PyData:=.tuple [rE p.1,p.2]
theorem cF {G:Hp}:∀{vs:List V}{xs:List (List Key×PyData)},AVs G vs (xs.map prD)->∃kvs,Paired (jP G) vs kvs/\kvs.map Prod.fst=xs.map Prod.fst/\∀f∈kvs,∃d,AV G f.2 d
 |_,[],.nil=>⟨[],.nil,rfl,λ_ h=>nomatch h⟩
 |_,(k,d)::xs,.cons h r=>by
  obtain⟨kvs,g,m,j⟩:=cF r;unfold prD at h;cases h with
  |tup e a=>
   cases a with
   |cons a1 a2=>
    cases a2 with
    |cons l i=>
     cases i;obtain⟨b,rfl,hb⟩:=iP a1;refine⟨(k,_)::kvs,.cons ⟨_,b,rfl,e,hb⟩ g,by simp[m],λf c=>?_⟩;rcases zY2.mp c with rfl|c
     ·exact⟨d,l⟩
     ·exact j f c
section
variable {X:Cx}{α:Ev}{e a b:Expr}{p pos:Pos}{Q:PyData->Prop}
theorem zf0 (r:X.calm=true)(D:X.A.units+64<cLine)(hg:Gl X "dict")(hm:X.mg "dict"=none)
  (h:EvD X α e λx=>∃xs:List (List Key×PyData),x=.list (xs.map prD)/\∀ds,(∀k,inT ds k=qg xs k)->Q (tN ds))
  (he:starEach [e] X.env=(false,eval e X.env)::starEach [] X.env:=by rfl):EvD X α (.Call (.Name "dict" p) [e] [] pos) Q:=λF σ H R m k=>by
 refine⟨_,wt (jh r (by lia)) hg hm (by decide) (zy zf zW he) (he:=he),?_⟩;refine h F σ H _ m λx C H1 B t1 k1 u=>?_;obtain⟨xs,rfl,q⟩:=B;have m1:=m.kz k1 t1;cases u with
 |@lst l ps _ e1 e2=>
  obtain⟨kvs,j,s,y⟩:=cF e2;have g:Paired (jP H1) ps kvs:=Paired.mapP j λx E i=>by obtain⟨p,b,t,w,z3⟩:=i;exact⟨p,b,t,(zb w).2,(zb z3).2⟩
  refine⟨l,ps,kvs,rfl,(zb e1).2,g,λpn c o=>?_⟩;obtain⟨ds,f⟩:=cY (G:=Gz F α σ H1) (vp [] kvs) (qJ (P:=λv=>∃d,AV (Gz F α σ H1) v d) kvs [] (λ_ h=>nomatch h) y);have z:zu (Gz F α σ H1) (Gz F α σ (upd H1 pn (.frz o (.dT (vp [] kvs))))):=zm λa o' ha e=>⟨ha,by rw[zc (zk e c)];exact e⟩;refine k (tN ds) (.ref pn) _ (q ds λn=>?_) (m1.tp.same (zH c)) (k1.trans (Kz.of_same (zH c))) (.dt (o:=o) (zt (m1.fresh c) zh) (f.same z));rw[<-f.some_iff n,ph,<-qT s];simp[yM]
def zM0 (neg:Bool):R2:=λx y H Q=>∃d ds,DV H x d/\DV H y (.list ds)/\d.canLay0=true/\PyData.canLayAll0 ds=true/\d.depth<=60/\Q (.bl (if neg then !(ds.any λy=>PyData.eqv y d)else ds.any λy=>PyData.eqv y d)) H
theorem zH4 (k:X.A.units+64<cLine):OpR X (compareOp .In) (zM0 false):=by
 intro pins s σ H x y v u Q I l c h;obtain⟨d,ds,hd,he,j,f,dp,q⟩:=h;obtain⟨as,g⟩:=hd.reads I l;obtain⟨bs,i⟩:=he.reads I c;exact SeqAt.in_list_reads i g f j (by have:=yg2 (PyData.depthAll ds) d.depth;exact zN5 k dp) ⟨.bl _,H,I,rfl,q⟩
theorem gK (k:X.A.units+64<cLine):OpR X (compareOp .NotIn) (zM0 true):=by
 intro pins s σ H x y v u Q I l c h;obtain⟨d,ds,hd,he,j,f,dp,q⟩:=h;obtain⟨as,g⟩:=hd.reads I l;obtain⟨bs,i⟩:=he.reads I c;exact SeqAt.notIn_list_reads i g f j (by have:=yg2 (PyData.depthAll ds) d.depth;exact zN5 k dp) ⟨.bl _,H,I,rfl,q⟩
theorem zE1 {Q:Bool->Prop}(g:X.A.units+64<cLine)(h:EvD X α a λx=>EvD X α b λy=>∃ds,y=.list ds/\x.canLay0=true/\PyData.canLayAll0 ds=true/\x.hasDict=false/\PyData.hasDictAll ds=false/\x.depth<=60/\Q (ds.any λy=>PyData.eqv y x))(hm:behindInMarks .In b=false:=by rfl):EvT X α (.Compare a [.In] [b] pos) Q:=
 xT (zH4 g) hm (h.imp λx h=>h.imp λy c=>by obtain⟨ds,e,s1,s2,f,i,dp,hq⟩:=c;exact⟨_,λp H l k R j d z=>⟨x,ds,(j.dv f).same yx,by subst e;exact(d.dv (by simpa only[PyData.hasDict]using i)).same yx,s1,s2,dp,z⟩,hq⟩)
theorem fN {Q:Bool->Prop}(g:X.A.units+64<cLine)(h:EvD X α a λx=>EvD X α b λy=>∃ds,y=.list ds/\x.canLay0=true/\PyData.canLayAll0 ds=true/\x.hasDict=false/\PyData.hasDictAll ds=false/\x.depth<=60/\Q (!ds.any λy=>PyData.eqv y x))(hm:behindInMarks .NotIn b=false:=by rfl):EvT X α (.Compare a [.NotIn] [b] pos) Q:=
 xT (gK g) hm (h.imp λx h=>h.imp λy c=>by obtain⟨ds,e,s1,s2,f,i,dp,hq⟩:=c;exact⟨_,λp H l k R j d z=>⟨x,ds,(j.dv f).same yx,by subst e;exact(d.dv (by simpa only[PyData.hasDict]using i)).same yx,s1,s2,dp,z⟩,hq⟩)
theorem zf3 {x:PyData}{ds:List (PyData×PyData)}{k:List Key}{T:Bool->Prop}(e:x=rE k)(q:T (inT ds k)):qr X x (tN ds) T:=by
 subst e;have key:∀(p:Addr->Prop) (H:Hp) (d c:V),AV (sub p H) d (rE k)->AV (sub p H) c (tN ds)->∃a o,c=.ref a/\nC H a d o/\o.isSome=inT ds k:=λp H d c g f=>by
  obtain⟨a,o,kvs,rfl,g1,g2⟩:=f.dt_inv;obtain⟨b,rfl,hb⟩:=iP g;exact⟨a,_,rfl,.inr ⟨kvs,k,b,.inr ⟨o,(zb g1).2⟩,rfl,(zb hb).2,rfl⟩,g2.some_iff k⟩
 refine⟨_,λp H d c R g f h=>?_,λp H d c R g f h=>?_,q⟩
 ·obtain⟨a,o,e1,i,j⟩:=key p H d c g f;exact .inr ⟨a,o,e1,i,by rw[if_neg (by decide),j];exact h⟩
 ·obtain⟨a,o,e1,i,j⟩:=key p H d c g f;exact .inr ⟨a,o,e1,i,by rw[if_pos rfl,j];exact h⟩
theorem eV {n z:Int}{x:Str}{ds:List (PyData×PyData)}{T:Bool->Prop}(q:T (inT ds [.inl n,.inr x,.inl z])):qr X (.tuple [.int n,.str x,.int z]) (tN ds) T:=zf3 rfl q
end
structure Moved (fs:List Addr)(e:Addr)(ts:List Addr)(h h':Heap):Prop where
 keep:∀b o,b≠e->b∉ts->b∉fs->h.get? b=some o->h'.get? b=some o
 slot:∀b o,b∈fs->h.get? b=some o->∃sl,h'.get? b=some {o with slots:=sl}
 exc:∀o vs,h.get? e=some o->o.data=.fields vs->∃o' vs',h'.get? e=some o'/\o'.cls=o.cls/\o'.dict=o.dict/\o'.data=.fields vs'
 there:∀b o,h.get? b=some o->∃o',h'.get? b=some o'
def Ent (h base:Heap)(e T:Addr)(fl:Value):Prop:=
 ∃oe vs a b,h.get? e=some oe/\oe.data=.fields vs/\vs[1]?=some (.ref T)/\T≠e/\base.get? T=none/\h.get? T=some a/\a.data=.fields b/\b[3]?=some fl
def Beg (h base:Heap)(e:Addr)(ts:List Addr):Prop:=
 (ts=[]/\∃oe vs,h.get? e=some oe/\oe.data=.fields vs/\vs[1]?=some .none)\/∃T,ts=[T]/\Ent h base e T .none
theorem tW {base h:Heap}{l:List Env}{b:Addr}(a:h.FunFrames base l)(hb:b∈frs l):base.get? b=none/\∃o,h.get? b=some o/\∀vs,o.data≠.fields vs:=a.mem hb
section
variable {M:Model}{A:Around}{E:Value->Shared->Prop}{s:Shared}
theorem vA (o:Obj)(f:Array Value->Array Value):(o.mapFields f).cls=o.cls/\(o.mapFields f).dict=o.dict:=by
 obtain⟨c,d,dt,sl⟩:=o;cases dt<;>exact⟨rfl,rfl⟩
theorem qK {fs:List Addr}{e T:Addr}{h:Heap}{c:Obj}{g:Array Value}{f:Array Value->Array Value}(hT:h.get? T=some c)(hd:c.data=.fields g)(a:∀b∈fs,b≠T):Moved fs e [T] h (h.update T (Obj.mapFields f)) where
 keep:=λb o _ hb _ q=>by
  rw[zZ2 _ _ (λz=>hb (by rw[<-z];exact zZ1.mpr rfl))];exact q
 slot:=λb o hb q=>⟨o.slots,by rw[zZ2 _ _ (z23 (a b hb))];exact q⟩
 exc:=λo vs q d=>by
  by_cases z:T=e
  ·subst z;rw[hT]at q;cases q;refine⟨_,_,z49 _ hT (ya2 (z97 hd _)),(vA _ _).1,(vA _ _).2,z97 hd _⟩
  ·exact⟨o,vs,by rw[zZ2 _ _ z];exact q,rfl,rfl,d⟩
 there:=λb o q=>by
  by_cases z:T=b
  ·subst z;exact⟨_,z49 _ hT (ya2 (z97 hd _))⟩
  ·exact⟨o,by rw[zZ2 _ _ z];exact q⟩
theorem zi5 {base:Heap}{l:List Env}{e T:Addr}{fl:Value}{fo:Option Addr}{Q:Unit->Shared->Prop}(i:s.heap.FunFrames base l)(hk:base.StaysIn s.heap)(x:Ent s.heap base e T fl)
  (h:∀h',Moved (frs l) e [T] s.heap h'->Ent h' base e T (fo.elim .none λf=>rawInt f)->h'.FunFrames base l->base.StaysIn h'->h'.objs.size=s.heap.objs.size->Q () {s with heap:=h'}):wpAny M A (setFlight (.ref e) fo) Q E s:=by
 obtain⟨oe,vs,m,k,he,hd,g,hne,hb,hT,a,j⟩:=x;have hsz:3<k.size:=(z62.mp j).1;unfold setFlight;refine zX6 (z63 he hd g ?_);rw[if_pos (show(Value.ref T != Value.none)=true from by simp)];refine wpAny_setField hT a hsz (h _ (qK hT a λb c z=>?_) ?_ ?_ ?_ (by simp))
 ·obtain⟨_,o,d,hn⟩:=tW i c;rw[z,hT]at d;cases d;exact hn _ a
 ·exact⟨oe,vs,_,_,by rw[zZ2 _ _ hne];exact he,hd,g,hne,hb,z49 _ hT (ya2 (z97 a _)),z97 a _,by simp[hsz]⟩
 ·refine i.of_keeps λb o c hn=>⟨o,?_,rfl⟩;rw[zZ2 _ _ (λz=>by subst z;rw[hT]at c;cases c;exact hn _ a)];exact c
 ·intro b o q;rw[zZ2 _ _ (λz=>by subst z;rw[hb]at q;cases q)];exact hk b o q
theorem bV {base:Heap}{env:Env}{outer:List Env}{L e:Addr}{oe:Obj}{vs:Array Value}{head:Value}{k:Bool}{Q:Unit->Shared->Prop}
  (G:A.frames=some (env::outer)) (x:s.heap.FunFrames base (env::outer)) (hf:env.frame=some L) (he:s.heap.get? e=some oe) (C:base.StaysIn s.heap) (y:base.get? e=none) (hd:oe.data=.fields vs) (hsz:1<vs.size)
  (h:∀h' T,Moved (frs (env::outer)) e [] s.heap h'->s.heap.objs.size<=T->Ent h' base e T (rawInt L)->h'.FunFrames base (env::outer)->base.StaysIn h'->Q () {s with heap:=h'}):
  wpAny M A (do let a <-frameOf env;let pl <-entryPlaceOf L k;let b <-EntryCells.newEntry head a .none (rawInt L) .none pl;setField (.ref e) 1 b) Q E s:=by
 have n:e∉frs (env::outer):=λhm=>by
  obtain⟨_,o,w,F⟩:=tW x hm;rw[he]at w;injection w with w;subst w;exact F vs hd
 refine zX6 (wpAny_frameOf_fun G x hf λc f=>?_);refine zX6 (wpAny_entryPlaceOf λpl hpl=>?_);unfold EntryCells.newEntry newFields;refine zX6 (wpAny_newObj_type ?_ (hpl.sizeOk5 _ _ _ _ _));have m:c.get? e=some oe:=(f.2.1 e n).trans he;have l:base.StaysIn c:=λb o r=>(f.2.1 b λhm=>by rw[(tW x hm).1]at r;cases r).trans (C b o r);generalize D:({cls:=.type "traceback",dict:=none,data:=.fields ([head,.ref L,.none,rawInt L,.none]++(if pl.isEmpty then List.replicate 6 Value.none else pl)).toArray}:Obj)=ob;have u:ob.data=.fields ([head,.ref L,.none,rawInt L,.none]++(if pl.isEmpty then List.replicate 6 Value.none else pl)).toArray:=by rw[<-D]
 have j:=zX7 (h:=c) ob m;refine wpAny_setField j hd hsz ?_;have v:c.objs.size≠e:=z70 (zY6 m);have g:=z97 hd (·.setIfInBounds 1 (Value.ref c.objs.size));have i:=z49 (Obj.mapFields (·.setIfInBounds 1 (Value.ref c.objs.size))) j (ya2 g);have p:((c.push ob).update e (Obj.mapFields (·.setIfInBounds 1 (Value.ref c.objs.size)))).get? c.objs.size=some ob:=
  (zZ2 (c.push ob) (Obj.mapFields (·.setIfInBounds 1 (Value.ref c.objs.size))) (z23 v)).trans (zZ0 c (ya2 u))
 have keep:∀b o,b≠e->c.get? b=some o->((c.push ob).update e (Obj.mapFields (·.setIfInBounds 1 (Value.ref c.objs.size)))).get? b=some o:=λb o B hb=>by
  rw[zZ2 _ _ (z23 B)];exact zX7 _ hb
 refine h _ c.objs.size ⟨λb o hb _ hf q=>keep b o hb ((f.2.1 b hf).trans q),λb o hb q=>?_,λo vs' q d=>?_,λb o q=>?_⟩ (by rw[f.1];exact zY3 _) ⟨_,_,ob,_,i,g,by simp[hsz],v,l.fresh,p,u,by simp⟩ ?_ (λb o q=>keep b o (λz=>by rw[z,y]at q;cases q) (l b o q))
 ·obtain⟨sl,t⟩:=f.2.2 b o q;exact⟨sl,keep b _ (λz=>n (z▸hb)) t⟩
 ·rw[he]at q;cases q;exact⟨_,_,i,(vA _ _).1,(vA _ _).2,g⟩
 ·by_cases z:b=e
  ·subst z;exact⟨_,i⟩
  ·obtain⟨sl,t⟩:=f.2.2 b o q;exact⟨_,keep b _ z t⟩
 ·refine x.of_keeps λb o hb hn=>?_;obtain⟨sl,t⟩:=f.2.2 b o hb;exact⟨_,keep b _ (λz=>by subst z;rw[he]at hb;cases hb;exact hn _ hd) t,rfl⟩
theorem zP7 {base:Heap}{env:Env}{outer:List Env}{L e:Addr}{ts:List Addr}{Q:Unit->Shared->Prop}
  (k:A.frames=some (env::outer)) (t:s.heap.FunFrames base (env::outer)) (hf:env.frame=some L) (i:base.StaysIn s.heap) (f:base.get? e=none) (x:Beg s.heap base e ts)
  (h:∀h' T,Moved (frs (env::outer)) e ts s.heap h'->s.heap.objs.size<=T->Ent h' base e T (rawInt L)->h'.FunFrames base (env::outer)->base.StaysIn h'->Q () {s with heap:=h'}):wpAny M A (noteFrame (.ref e) env) Q E s:=by
 rcases x with⟨rfl,oe,vs,he,hd,g⟩|⟨T,rfl,oe,vs,K,N,he,hd,g,hne,hb,hT,a,y⟩
 ·unfold noteFrame;simp only[hf];refine zX6 (z63 he hd g ?_);rw[if_neg (by decide)];exact bV k t hf he i f hd (z62.mp g).1 h
 ·unfold noteFrame;simp only[hf];refine zX6 (z63 he hd g ?_);rw[if_pos (show(Value.ref T != Value.none)=true from by simp)];refine zX6 (z63 hT a y ?_);rw[if_neg (show ¬((Value.none == rawInt L)=true)from by simp[rawInt])];refine zX6 (wpAny_setField hT a (z62.mp y).1 ?_);have n:∀b∈frs (env::outer),b≠T:=λb c z=>by
   obtain⟨_,o,w,hn⟩:=tW t c;rw[z,hT]at w;cases w;exact hn _ a
  have l:Moved (frs (env::outer)) e [T] s.heap (s.heap.update T (Obj.mapFields (·.setIfInBounds 3 Value.none))):=qK hT a n;refine bV (s:={s with heap:=s.heap.update T (Obj.mapFields (·.setIfInBounds 3 Value.none))}) k ?_ hf (show(s.heap.update T (Obj.mapFields (·.setIfInBounds 3 Value.none))).get? e=some oe by rw[zZ2 _ _ hne];exact he) ?_ f hd (z62.mp g).1 λh' C m1 m2 m3 m4 m5=>?_
  ·refine t.of_keeps λb o c hn=>⟨o,?_,rfl⟩;rw[zZ2 _ _ (λz=>by subst z;rw[hT]at c;cases c;exact hn _ a)];exact c
  ·intro b o q;show(s.heap.update T _).get? b=some o;rw[zZ2 _ _ (λz=>by subst z;rw[hb]at q;cases q)];exact i b o q
  ·refine h h' C ⟨λb o j I B q=>m1.keep b o j (by simp) B (l.keep b o j I B q),λb o j q=>?_,λo vs' q d=>?_,λb o q=>?_⟩ (by have m2:(s.heap.update T _).objs.size<=C:=m2;simpa using m2) m3 m4 m5
   ·obtain⟨sl,e1⟩:=l.slot b o j q;obtain⟨m,r⟩:=m1.slot b _ j e1;exact⟨m,r⟩
   ·obtain⟨p,v,e1,F,D,f1⟩:=l.exc o vs' q d;obtain⟨G,u,r,H,J,f2⟩:=m1.exc p v e1 f1;exact⟨G,u,r,H.trans F,J.trans D,f2⟩
   ·obtain⟨p,e1⟩:=l.there b o q;exact m1.there b p e1
theorem aF {base:Heap}{env:Env}{L e T:Addr}{Q:Unit->Shared->Prop}(hf:env.frame=some L)(x:Ent s.heap base e T (rawInt L))(h:Q () s):wpAny M A (noteFrame (.ref e) env) Q E s:=by
 obtain⟨oe,vs,d,f,he,hd,b,hne,hb,hT,a,c⟩:=x;exact wpAny_noteFrame_inFlight hf he hd b hT a c h
end
section
variable {P:Program}{w:World}{H H0:Hp}{h h' h0:Heap}{fs fs' ts:List Addr}{e:Addr}
theorem HOk.moved (x:HOk P w H h)(m:Moved fs e ts h h')(c:∀b∈fs,H b=none)(f:∀b∈ts,H b=none)(he:∃C d,H e=some (xcO e C d)):HOk P w H h':=λa o q=>by
 obtain⟨C,d,he⟩:=he;by_cases z:a=e
 ·subst z;rw[he]at q;cases q;obtain⟨⟨o,vs,g,k,j,i⟩,_,st⟩:=x _ _ he;obtain⟨o',vs',g1,g2,g3,l⟩:=m.exc o vs g i;exact⟨⟨o',vs',g1,g2.trans k,g3.trans j,l⟩,⟨o',g1⟩,st⟩
 ·have nf:∀{b:Addr} {u:HO},H b=some u->b∉fs:=λ{b u} hb q=>by rw[c b q]at hb;cases hb
  have nt:∀{b:Addr} {u:HO},H b=some u->b∉ts:=λ{b u} hb q=>by rw[f b q]at hb;cases hb
  refine(x a o q).stay (λb u hb e1=>?_) (λ_ q=>q) λ_ _ q=>q;rcases hb with rfl|hb
  ·exact m.keep _ _ z (nt q) (nf q) e1
  ·refine m.keep _ _ (λz=>?_) (nt hb) (nf hb) e1;rw[z,he]at hb;cases hb
end
def CX1 (P:Program)(w:World)(base:Heap):CXT:=λouter H s E e s'=>∃a T H',e=.ref a/\s'.os=s.os/\AllBare s'.gens/\Un (frs outer) [] H H' s.heap s'.heap/\HOk P w H' s'.heap/\(∃C d,H' a=some (xcO a C d))/\H' T=none/\s.heap.get? T=none/\Ent s'.heap base a T .none/\E (.ref a) none H'
inductive Fl (X:Cx)(H:Hp)(h:Heap)(a:Addr):Prop where
 |new {oe:Obj}{vs:Array Value}:h.get? a=some oe->oe.data=.fields vs->vs[1]?=some .none->Fl X H h a
 |old {T:Addr}:H T=none->X.s₀.heap.get? T=none->(∀p∈X.pn,p.1≠T)->Ent h X.base a T .none->Fl X H h a
 |here {T:Addr}:H T=none->X.s₀.heap.get? T=none->(∀p∈X.pn,p.1≠T)->Ent h X.base a T (rawInt X.env.locals)->Fl X H h a
def XE (X:Cx)(R:St->Addr->Hp->Prop):Value->Shared->Prop:=λe s=>∃σ H a,e=.ref a/\Inv X [] σ H s/\(∃C d,H a=some (xcO a C d))/\Fl X H s.heap a/\R σ a H
section
variable {X:Cx}{pins:List (Addr×Obj)}{σ:St}{H H':Hp}{s s':Shared}{a:Addr}
theorem Inv.nopins (I:Inv X pins σ H s):Inv X [] σ H s:=I.pins_of λp b=>by cases b
theorem Inv.basex (I:Inv X pins σ H s)(h:H a≠none):X.base.get? a=none:=by
 cases q:X.base.get? a with
 |none=>rfl
 |some o=>exact absurd (I.bs a o q).2 h
theorem Inv.moved {ts:List Addr}{h':Heap}(I:Inv X pins σ H s)(h:X.stack=X.env::X.outer)(m:Moved (frs X.stack) a ts s.heap h')(ha:∃C d,H a=some (xcO a C d))(g:∀T∈ts,H T=none/\X.s₀.heap.get? T=none/\(∀p∈X.pn++pins,p.1≠T)/\∃o vs,s.heap.get? T=some o/\o.data=.fields vs):Inv X pins σ H {s with heap:=h'}:=by
 have l:H a≠none:=by obtain⟨C,d,z⟩:=ha;rw[z];simp
 have hf:X.env.frame=some X.env.locals:=by
  rcases I.ok.stk with z|⟨_,z⟩
  ·rw[h]at z;exact absurd (congrArg List.length z) (by simp)
  ·exact z
 have mem:∀b∈frs X.stack,b=X.env.locals\/b∈X.fs:=λb hb=>by
  rw[h]at hb;unfold frs at hb;rw[List.filterMap_cons_some hf]at hb;rcases zY2.mp hb with z|z
  ·exact .inl z
  ·exact .inr z
 have dat:∀{b:Addr} {o:Obj},s.heap.get? b=some o->(∀vs,o.data≠.fields vs)->b∉ts:=λ{b o} q n z=>by
  obtain⟨_,_,_,o',vs,K,d⟩:=g b z;rw[q]at K;cases K;exact n vs d
 obtain⟨J,hn,N⟩:=id I.loc;obtain⟨M,L,Q,F,B,t⟩:=id hn;have D:∃sl,h'.get? X.env.locals=some {M with slots:=sl}:=m.slot _ _ (by rw[h];unfold frs;rw[List.filterMap_cons_some hf];exact zY9) F;have y:h'.Ns X.env.locals J:=by obtain⟨sl,z⟩:=D;exact⟨_,L,Q,z,B,t⟩
 have cells:∀{x:Str} {c:Addr} {v:Option Value},X.env.cells.lookup x=some c->s.heap.IsCell c v->h'.IsCell c v:=λ{x c v} e E=>by
  obtain⟨oc,j,hd⟩:=E;by_cases z:c∈frs X.stack
  ·obtain⟨sl,O⟩:=m.slot c oc z j;exact⟨_,O,hd⟩
  ·exact⟨oc,m.keep c oc (λz=>l (z▸I.freeC x c e)) (dat j λvs q=>by rw[hd]at q;cases q) z j,hd⟩
 have un:Un X.fs X.ex X.H₀ H X.s₀.heap h':=by
  have u:=I.base;have ne:∀{b:Addr} {o:Obj},X.s₀.heap.get? b=some o->X.H₀ b=none->b∉X.ex->b≠a:=λ{b o} q n f z=>l (z▸u.free b o q n f);have nt:∀{b:Addr} {o:Obj},X.s₀.heap.get? b=some o->b∉ts:=λ{b o} q z=>by rw[(g b z).2.1]at q;cases q
  have nl:∀{b:Addr} {o:Obj},X.s₀.heap.get? b=some o->b≠X.env.locals:=λ{b o} q=>z01 (zX9 (zY6 q) I.ok.above);refine⟨λb o q n hb f=>m.keep b o (ne q n f) (nt q) (λz=>(mem b z).elim (nl q) hb) (u.keep b o q n hb f),λb o q n hb f=>?_,u.free,λb o q f=>?_,u.tups,u.frzs,u.tbls⟩
  ·obtain⟨sl,e1⟩:=u.slot b o q n hb f;by_cases z:b∈frs X.stack
   ·obtain⟨w,A⟩:=m.slot b _ z e1;exact⟨w,A⟩
   ·exact⟨sl,m.keep b _ (ne q n f) (nt q) z e1⟩
  ·obtain⟨o',e1⟩:=u.there b o q f;exact m.there b o' e1
 refine⟨I.ok,I.os,I.bare,un,⟨J,y,λi x v e1 A P=>?_⟩,λx c e=>?_,I.free,I.freeC,λp G=>?_,I.hok.moved m I.stkFree (λb hb=>(g b hb).1) ha,I.len⟩
 ·obtain⟨u,r,q⟩:=N i x v e1 A P;refine⟨u,r,?_⟩;rcases q with q|⟨k,c,e,z⟩
  ·exact .inl q
  ·exact .inr ⟨k,c,e,cells e z⟩
 ·obtain⟨v,z⟩:=I.cell x c e;exact⟨v,cells e z⟩
 ·obtain⟨e,n,ne,nf,d⟩:=I.pin p G;exact⟨m.keep _ _ (λz=>l (z▸n)) (λz=>(g _ z).2.2.1 p G rfl) (λz=>(mem _ z).elim ne nf) e,n,ne,nf,d⟩
theorem Fl.beg (f:Fl X H s.heap a):(∃ts,Beg s.heap X.base a ts/\∀T∈ts,H T=none/\X.s₀.heap.get? T=none/\(∀p∈X.pn,p.1≠T)/\∃o vs,s.heap.get? T=some o/\o.data=.fields vs)\/∃T,H T=none/\X.s₀.heap.get? T=none/\(∀p∈X.pn,p.1≠T)/\Ent s.heap X.base a T (rawInt X.env.locals):=by
 cases f with
 |new c d b=>exact .inl ⟨[],.inl ⟨rfl,_,_,c,d,b⟩,λT hT=>by cases hT⟩
 |@old T c d b h4=>
  refine .inl ⟨[T],.inr ⟨T,rfl,h4⟩,λi hT=>?_⟩;rw[zZ1]at hT;subst hT;obtain⟨_,_,g,h,_,_,_,_,_,hT,e,_⟩:=h4;exact⟨c,d,b,g,h,hT,e⟩
 |@here T c d b h4=>exact .inr ⟨T,c,d,b,h4⟩
theorem Inv.stkf (I:Inv X pins σ H s)(b:X.stack=X.env::X.outer):X.env.frame=some X.env.locals:=by
 rcases I.ok.stk with z|⟨_,z⟩
 ·rw[b]at z;exact absurd (congrArg List.length z) (by simp)
 ·exact z
theorem Inv.stays (I:Inv X pins σ H s):X.base.StaysIn s.heap:=I.bk
theorem Inv.note {M:Model}{Q:Unit->Shared->Prop}{E:Value->Shared->Prop}(I:Inv X [] σ H s)(b:X.stack=X.env::X.outer)(ha:∃C d,H a=some (xcO a C d))(f:Fl X H s.heap a)
  (h:∀h' T,Inv X [] σ H {s with heap:=h'}->H T=none->X.s₀.heap.get? T=none->(∀p∈X.pn,p.1≠T)->Ent h' X.base a T (rawInt X.env.locals)->Q () {s with heap:=h'}):wpAny M X.A (noteFrame (.ref a) X.env) Q E s:=by
 have e:H a≠none:=by obtain⟨C,d,z⟩:=ha;rw[z];simp
 have hf:=I.stkf b;rcases f.beg with⟨ts,q,i⟩|⟨T,j,k,r,g⟩
 ·refine zP7 (by rw[<-b];exact I.ok.frames) (by rw[<-b];exact I.stack) hf I.stays (I.basex e) q λh' T m1 m2 m3 _ _=>?_;have l:Inv X [] σ H {s with heap:=h'}:=I.moved b (by rw[b];exact m1) ha λT hT=>by
   obtain⟨m,n,t,o⟩:=i T hT;exact⟨m,n,λp c=>t p (by simpa using c),o⟩
  refine h h' T l (I.hok.fresh m2) (yc0 (zY8 I.sz m2)) (λp c z=>?_) m3;have:=zY6 (I.pin p (by simpa using c)).1;rw[z]at this;exact absurd this (Nat.not_lt.mpr m2)
 ·exact aF hf g (by have:=h s.heap T I j k r g;exact this)
theorem Inv.flight {M:Model}{Q:Unit->Shared->Prop}{E:Value->Shared->Prop}{A:Around}{T:Addr}{fl:Value}{fo:Option Addr}(I:Inv X pins σ H s)(b:X.stack=X.env::X.outer)(ha:∃C d,H a=some (xcO a C d))(e:H T=none)(k:X.s₀.heap.get? T=none)(i:∀p∈X.pn++pins,p.1≠T)(x:Ent s.heap X.base a T fl)
  (h:∀h',Inv X pins σ H {s with heap:=h'}->Ent h' X.base a T (fo.elim .none λf=>rawInt f)->Q () {s with heap:=h'}):wpAny M A (setFlight (.ref a) fo) Q E s:=by
 refine zi5 (l:=X.stack) I.stack I.stays x λh' m1 m2 _ _ _=>h h' (I.moved b m1 ha λm hT=>?_) m2;rw[zZ1]at hT;subst hT;obtain⟨_,_,g,j,_,_,_,_,_,hT,c,_⟩:=x;exact⟨e,k,i,g,j,hT,c⟩
theorem zn4 {R:St->Addr->Hp->Prop}{E:XK}{e:Value}(hex:X.ex=[])(I:Inv X pins σ H s)(h:CX1 X.prog X.w X.base X.stack H s E e s')(k:∀a H',E (.ref a) none H'->R σ a H'):XE X R e s':=by
 obtain⟨a,T,H',rfl,f,hg,u,hok,ha,g,d,l,c⟩:=h;have j:Inv X pins σ H' s':=I.call' (ch:=[]) f u hok hg λb hb=>by cases hb
 refine⟨σ,H',a,rfl,j.nopins,ha,.old g ?_ (λp i z=>?_) l,k a H' c⟩
 ·cases q:X.s₀.heap.get? T with
  |none=>rfl
  |some o=>
   exfalso
   obtain⟨o',e1⟩:=I.base.there T o q (by rw[hex];simp);rw[d]at e1;cases e1
 ·have:=(I.pin p (z52 _ i)).1;rw[z,d]at this;cases this
end
section
variable {X:Cx}{E':Value->Shared->Prop}
theorem PSs.wishx {st:List Stmt}{t:TS}(h:PSs (X.wish E') st t)(k:∀e s,E' e s->X.xe e s):PSs X st t:=λpins s σ H D I hw=>
 z31 (h pins s σ H D (I.wish _) hw) (λ_ _ q=>q.unwish) λe s z=>k e s z
end
section
variable {P:Program}{w:World}{K:PySem.W.Frag}{mg:Str->Option Value}{base:Heap}
theorem zo8 {N:List Str}{qual:Str}{scope:Scope}{f:Addr}{cd:Value}{A:Around}{outer:List Env}{s₀ s:Shared}{H₀:Hp}{E:XK}{e:Value}
  (h:XE (xr (CX1 P w base) P w K mg base N qual scope f cd A outer s₀ H₀ E) (λ_ a H=>E (.ref a) none H) e s):(xr (CX1 P w base) P w K mg base N qual scope f cd A outer s₀ H₀ E).xe e s:=by
 obtain⟨σ,H,a,rfl,I,ha,i,r⟩:=h;show wpAny _ _ (leaving _ _) _ _ _;unfold leaving;refine zX6 (I.note rfl ha i λh' T j d g m k=>?_);refine j.flight (fo:=none) rfl ha d g (by simpa using m) k λl b c=>?_;exact⟨a,T,H,rfl,b.os,b.bare,b.base,b.hok,ha,d,g,c,r⟩
theorem Fun.okX {x qual:Str}{st:Stmt}{f:Addr}{fd:FuncData}{N ps:List Str}{k:Nat}{sp:Sp}(F:Fun K x qual st f fd)(S:zI N ps (zd st))(len:∀vs H Q E,sp vs H Q E->vs.length=ps.length)
  (b:∀(cdv:Value) (A:Around) (outer:List Env) (s:Shared) (H:Hp) (vs:List V) (Q:VK) (E:XK),zG k (A.deeper (envOfC qual (zd st) s.heap.objs.size f cdv))->sp vs H Q E->
   ∃t,PSs ((xr (CX1 P w base) P w K mg base N qual (zd st) f cdv A outer s H E).wish (XE (xr (CX1 P w base) P w K mg base N qual (zd st) f cdv A outer s H E) λ_ a H=>E (.ref a) none H)) (zr st) t/\t {nx:=λ_ H'=>Q .non H',rt:=Q} (start N vs) H):yv P w K mg base (CX1 P w base) (k+1) f fd ps sp:=by
 obtain⟨oc,od,kV,doc,pm,an,cdv,ct,osl,rfl,g,d⟩:=F.ex;refine ia g d S len λA outer s H vs Q E hr c=>?_;obtain⟨t,h,q⟩:=b cdv A outer s H vs Q E hr c;exact⟨t,h.wishx λe s z=>zo8 z,q⟩
end
section
variable {prog:Program}{w:World}{A:Around}{E:Value->Shared->Prop}{h:Heap}{g:Array GenState}{d:Drawn}{t:Nat}{os:OsState}
variable {nm q:Str}{C N:Addr}{bs bm bmB:List Value}{hdct:Bool}{sn:List Str}{sub:List Value}{ab:Bool}{col:Option Bool}{dd:Option Addr}{k0 k1 k2 k3 k5:Option Value}{B Bn newId nid initId inN:String}{bmN:List Value}
abbrev sP (C t:Addr)(d:Option Addr):Obj:={cls:=.ref C,dict:=d,data:=.fields #[.ref t,.none,.none,.none,.bool false,.none]}
def xh (h:Heap)(C:Addr)(rest:List Value):Heap:=(h.push {cls:=.type "tuple",data:=.seq rest.toArray}).push (sP C h.objs.size none)
theorem kG (u:ExcBaseFacts Bn newId inN bmN)(l:bmB.contains (.type Bn)=true)(F:ExcBaseFacts B nid initId bmB)(T:OwnTail h bmB bm){v:Str->Option Value}{rest:List Value}{fI:Addr}{y:Obj}{Q:Fin->Shared->Prop}
  (m:h.get? C=some (excClassObj nm q C N bs bm hdct sn sub ab col dd k0 k1 k2 k3 k5 newId)) (hn:h.Ns N v) (hi:v "__init__"=some (.ref fI))
  (s:h.get? fI=some y) (n:y.cls=.type "function")
  (hq:wpAny (model prog w) A (call (.ref fI) (.ref (h.objs.size+1)::rest)) (λr s'=>r=.none/\Q (.done (.ret (.ref (h.objs.size+1)))) s') E ⟨xh h C rest,g,d,t,os⟩) (f:rest.length<=sizeLine):
  wpAny (model prog w) A (Builtin.«type.__call__» ⟨.ref C::rest,[]⟩) Q E ⟨h,g,d,t,os⟩:=by
 repeat (first|with_reducible refine z76 m ?_|with_reducible refine wpAny_madeBy_exc m ?_|wp_step)
 refine codeAny_call_builtin_code (ye7 _ u.quiet) (wpAny_check_new_subU u l T m ?_);refine codeAny_exc_new_subU u l F T m ?_ f;show wpAny _ _ _ _ _ ⟨xh h C rest,g,d,t,os⟩;have keep:∀b o,h.get? b=some o->(xh h C rest).get? b=some o:=λb o e=>zX7 _ (zX7 _ e);have a:=keep _ _ m;have c:=keep _ _ s;have i:(xh h C rest).Ns N v:=let⟨o,es,ep,e,r⟩:=hn;⟨o,es,ep,keep _ _ e,r⟩;have j:(xh h C rest).get? (h.objs.size+1)=some (sP C h.objs.size none):=by unfold xh;heap_get
 have p:(Value.ref C::bm).contains (.ref C)=true:=by simp
 have k:=T.keeps keep;unfold isInstance
 repeat (first|with_reducible refine z76 j ?_|(with_reducible refine wpAny_isSubtype_exc a ?_;rw[p])|wp_step)
 show wpAny _ _ (typeLookup (.ref C) _) _ _ _;refine wpAny_typeLookup_tail a i k F.mroIs F.init.lookup ?_;rw[hi];refine z41 (zX6 ?_);unfold bindSpecial;refine zX6 (yh1 (T:="function") ⟨_,c,n⟩ ?_);rw[if_pos (by decide)];refine zY4 (zX6 (z31 hq (λr s' hr=>?_) λ_ _ x=>x));obtain⟨rfl,z⟩:=hr
 wp_walk
 exact z
theorem zO1 (k:ExcBaseFacts Bn newId inN bmN)(e:bmB.contains (.type Bn)=true)(F:ExcBaseFacts B nid initId bmB)(T:OwnTail h bmB bm){j:Str->Option Value}{rest:List Value}{fI:Addr}{i:Obj}{Q:Value->Shared->Prop}
  (b:h.get? C=some (excClassObj nm q C N bs bm hdct sn sub ab col dd k0 k1 k2 k3 k5 newId)) (hn:h.Ns N j) (hi:j "__init__"=some (.ref fI))
  (f:h.get? fI=some i) (c:i.cls=.type "function")
  (hq:wpAny (model prog w) (A.under (.builtin "type.__call__" ⟨.ref C::rest,[]⟩)) (call (.ref fI) (.ref (h.objs.size+1)::rest)) (λr s'=>r=.none/\Q (.ref (h.objs.size+1)) s') E ⟨xh h C rest,g,d,t,os⟩) (a:rest.length<=sizeLine):
  wpAny (model prog w) A (call (.ref C) rest) Q E ⟨h,g,d,t,os⟩:=by
 have f1:=tc_lookup;have f2:=tc_bind (.ref C);have hT:(⟨h,g,d,t,os⟩:Shared).TypeIs (.ref C) "type":=⟨_,b,rfl⟩;refine yc2 (codeAny_of_tree ?_);show wpAny _ _ (callAny (.ref C) _) _ _ _
 repeat (any_goals (first|assumption|with_reducible refine z76 b ?_|wp_step))
 refine⟨rfl,?_⟩;exact codeAny_call_builtin_at (ye7 _ (by decide +kernel)) entry_typeCall (wpAny_check_type_call_sub b (kG k e F T b hn hi f c hq a))
theorem zE3 {M:Model}{s:Shared}{env:Env}{x:Sem Value}{Q:Flow->Shared->Prop}(b:bm.contains (.type "BaseException")=true)(j:A.handled=none)
  (h:wpAny M A x (λv a=>∃e t d,v=.ref e/\a.heap.get? C=some (excClassObj nm q C N bs bm hdct sn sub ab col dd k0 k1 k2 k3 k5 newId)/\a.heap.get? e=some (sP C t d)/\E (.ref e) a) E s):
  wpAny M A (raiseStmt env (some x) none) Q E s:=by
 have f:(Value.ref C::bm).contains (.type "BaseException")=true:=by rw[List.contains_cons,b,Bool.or_true]
 unfold raiseStmt;refine zX6 (z31 h (λv a c=>?_) λ_ _ x=>x);obtain⟨e,t,d,rfl,i,he,k⟩:=c;obtain⟨l,g,d,tk,os⟩:=a
 repeat (first|with_reducible refine z76 he ?_|with_reducible refine z76 i ?_|(with_reducible refine wpAny_isSubtype_exc i ?_;rw[f])|wp_step)
 exact wpAny_raiseNew_none j k
end
open Builtin Builtin.ObjectAttr
def bmV :List Value:=[.type "ValueError",.type "Exception",.type "BaseException",.type "object"]
def va (K:Frag)(C S:Addr)(init:Option Value):Bool:=match K.lookup C with
 |some ⟨.type "type",_,.cls cd,sl⟩=>(match sl.toList with
  |[_,_,_,_,some (.builtin n),_]=>cd.mro == .ref C::.ref S::bmV&&n == "ValueError.__new__"&&!cd.hasDel&&cd.hasDict&&tailIn K bmV (.ref S::bmV)&&nsOkIn K cd.ns&&nsIn K cd.ns "__init__" == some init
  |_=>false)
 |_=>false
theorem cx {K:Frag}{h:Heap}{N:Addr}{mg:Str->Option Value}{n:Str}{v:Option Value}(X:K.In h)(G:h.Ns N mg)(e:nsIn K N n=some v):mg n=v:=by
 cases v with
 |none=>exact ns_none_of X G e
 |some v=>
  obtain⟨o,i,j,a,hd,_,hf⟩:=G;unfold nsIn at e;split at e
  ·rename_i c d b f sl q;have:=X _ _ q;rw[a]at this;cases this;cases hd;split at e
   ·rename_i g he;cases e;rw[<-hf];unfold nsFind findBy;rw[<-Array.find?_toList,he];rfl
   ·split at e<;>cases e
  ·cases e
theorem rC {K:Frag}{h:Heap}{C S:Addr}{init:Option Value}(X:K.In h)(q:va K C S init=true):
  ∃nm d N bs sn sub ab col dd k0 k1 k2 k3 k5 i,h.get? C=some (excClassObj nm d C N bs (.ref S::bmV) true sn sub ab col dd k0 k1 k2 k3 k5 "ValueError.__new__")/\h.Ns N i/\i "__init__"=init/\OwnTail h bmV (.ref S::bmV)/\∃cd,clsIn K C=some cd/\cd.hasDict=true/\cd.mro=.ref C::.ref S::bmV/\K.lookup C=some (excClassObj nm d C N bs (.ref S::bmV) true sn sub ab col dd k0 k1 k2 k3 k5 "ValueError.__new__"):=by
 unfold va at q;split at q
 ·rename_i dd cd sl e;split at q
  ·rename_i k0 k1 k2 k3 n k5 g;simp only[z07,yc1,ya3]at q;obtain⟨⟨⟨⟨⟨⟨hm,hn⟩,a⟩,b⟩,j⟩,hok⟩,c⟩:=q;obtain⟨nm,bs,mro,ns,d,hd,sn,sub,ab,col,del⟩:=cd;dsimp only at hm a hok c b;subst hm a hn b;have f:sl=#[k0,k1,k2,k3,some (.builtin "ValueError.__new__"),k5]:=by
    obtain⟨l⟩:=sl;simp only at g;rw[g]
   subst f;have N:=Heap.Ns.of_isNs (isNs_of_in X hok);exact⟨nm,d,ns,bs,sn,sub,ab,col,dd,k0,k1,k2,k3,k5,_,X _ _ e,N,cx X N c,tail_of_in X j,_,by unfold clsIn;rw[e],rfl,rfl,e⟩
  ·cases q
 ·cases q
section
variable {prog:Program}{w:World}{A:Around}{E:Value->Shared->Prop}{h:Heap}{g:Array GenState}{d:Drawn}{t:Nat}{os:OsState}{K:Frag}{C S e t0:Addr}{dx:Option Addr}{init:Option Value}
theorem zx0 {a:Obj}(he:h.get? e=some a)(b:a.cls=.ref C)(hd:∃vs,a.data=.fields vs){od:Option Obj}(hdx:match a.dict,od with
  |some dx,some o=>h.get? dx=some o
  |none,none=>True
  |_,_=>False):InstAt h e a C od:=⟨he,b,by obtain⟨vs,hd⟩:=hd;unfold notCls;rw[hd],hdx⟩
end
structure XC (K:Frag)(C S:Addr)(init:Option Value):Prop where
 ok:va K C S init=true
 sa:findIn K (.ref C) "__setattr__"=some (some (.builtin "object.__setattr__"))
 ga:findIn K (.ref C) "__getattribute__"=some (some (.builtin "BaseException.__getattribute__"))
 gt:findIn K (.ref C) "__getattr__"=some none
 cl:findIn K (.ref C) "__class__"=some (some (.builtin "object.__class__"))
 cg:specialIn K (.builtin "object.__class__") "__get__"=some (some (.builtin "getset_descriptor.__get__"))
 ct:takesIn K (.builtin "object.__class__")=some true
section
variable {prog:Program}{w:World}{A:Around}{E:Value->Shared->Prop}{h:Heap}{g:Array GenState}{d:Drawn}{t:Nat}{os:OsState}{K:Frag}{C S e t0:Addr}{init:Option Value}
structure XB (K:Frag)(C B:Addr):Prop where
 ty:typeIn K (.ref B)=some (.type "type")
 be:mroIn K B (.type "BaseException")=some true
 sub:mroIn K C (.ref B)=some true
theorem zB4 {B:Addr}{j:Obj}{od:Option Obj}{Q:Bool->Shared->Prop}(X:K.In h)(b:XB K C B)(I:InstAt h e j C od)(hq:Q true ⟨h,g,d,t,os⟩):wpAny (model prog w) A (excMatches (.ref e) (.ref B)) Q E ⟨h,g,d,t,os⟩:=by
 have l1:Looks (model prog w) h (isType (.ref B)) true:=by
  obtain⟨cd,a,_⟩:=Option.bind_eq_some_iff.mp b.be;unfold clsIn at a;split at a
  ·rename_i c' d' m l i;intro n p o s' k q;unfold isType loadHead;exact zX6 (wpAny_loadPart (k _ _ (X _ _ i)) (zY4 q))
  ·cases a
 have l2:Looks (model prog w) h (isExcClass (.ref B)) true:=l1.andThen (by rw[if_pos rfl];exact looks_mroIn X b.be);have l3:Looks (model prog w) h (isInstance (.ref B) (.type "tuple")) false:=(looks_typeIn X b.ty).andThen (Looks.of_pure tc_notTuple);have c:=looks_mroIn (M:=model prog w) X b.sub;have f:=I.type (M:=model prog w);unfold excMatches;refine zX6 (l3.at ?_);rw[if_neg (by decide)];refine zX6 (zY4 ?_);simp only[yd5,yi0];refine zX6 (zX6 (zX6 (l2.at ?_)));refine zY4 (zY4 (zX6 (f.at (zX6 (zX6 (zX6 (c.at ?_)))))));exact zY4 (zY4 (zY4 hq))
end
def xcF (a C:Addr)(d:Option Addr):HO:=.ext λh=>∃t,h.get? a=some (sP C t d)
section
variable {X:Cx}{pins:List (Addr×Obj)}{σ:St}{H:Hp}{s:Shared}{a C:Addr}{d:Option Addr}{pos:Pos}
theorem zH2 {P:Program}{w:World}{H':Hp}{h:Heap}{t:Addr}(e:h.get? a=some (sP C t d)):zD P w H' h a (xcF a C d):=⟨⟨t,e⟩,⟨_,e⟩,λ_ _ b k=>by obtain⟨t,e⟩:=b;exact⟨t,k _ e⟩⟩
theorem Inv.xat (I:Inv X pins σ H s)(e:H a=some (xcF a C d)):∃t,s.heap.get? a=some (sP C t d):=(I.hok a _ e).1
theorem Inv.xthaw (I:Inv X pins σ H s)(e:H a=some (xcF a C d)):Inv X pins σ (upd H a (xcO a C d)) s:=by
 obtain⟨t,h⟩:=I.xat e;have:=I.write (x:=a) (e:=a) (o:=xcO a C d) (h':=s.heap) (t':=s.toks) (by rw[e];exact True.intro) (.inl rfl) (λ_ _ _ q=>q) ⟨_,h⟩ ⟨⟨_,_,h,rfl,rfl,rfl⟩,⟨_,h⟩,λ_ _ b k=>by obtain⟨o,vs,c,f⟩:=b;exact⟨o,vs,k _ c,f⟩⟩;exact this
end
section
variable {prog:Program}{w:World}{A:Around}{E:Value->Shared->Prop}{h:Heap}{g:Array GenState}{d:Drawn}{t:Nat}{os:OsState}
variable {nm q:Str}{C N:Addr}{bs bm bmB:List Value}{hdct:Bool}{sn:List Str}{sub:List Value}{ab:Bool}{col:Option Bool}{dd:Option Addr}{k0 k1 k2 k3 k5:Option Value}{B Bn newId nid initId inN:String}{bmN:List Value}
theorem oW (n:ExcBaseFacts Bn newId inN bmN)(k:bmB.contains (.type Bn)=true)(F:ExcBaseFacts B nid initId bmB)(T:OwnTail h bmB bm){p:Str->Option Value}{rest:List Value}{Q:Fin->Shared->Prop}
  (l:h.get? C=some (excClassObj nm q C N bs bm hdct sn sub ab col dd k0 k1 k2 k3 k5 newId)) (hn:h.Ns N p) (s:p "__init__"=none)
  (hq:∀h' t',(∀b o,h.get? b=some o->h'.get? b=some o)->h'.get? (h.objs.size+1)=some (sP C t' none)->Q (.done (.ret (.ref (h.objs.size+1)))) ⟨h',g,d,t,os⟩) (i:rest.length<=sizeLine):
  wpAny (model prog w) A (Builtin.«type.__call__» ⟨.ref C::rest,[]⟩) Q E ⟨h,g,d,t,os⟩:=by
 repeat (first|with_reducible refine z76 l ?_|with_reducible refine wpAny_madeBy_exc l ?_|wp_step)
 refine codeAny_call_builtin_code (ye7 _ n.quiet) (wpAny_check_new_subU n k T l ?_);refine codeAny_exc_new_subU n k F T l ?_ i;show wpAny _ _ _ _ _ ⟨xh h C rest,g,d,t,os⟩;have keep:∀b o,h.get? b=some o->(xh h C rest).get? b=some o:=λb o e=>zX7 _ (zX7 _ e);have a:=keep _ _ l;have j:(xh h C rest).Ns N p:=let⟨o,es,ep,e,r⟩:=hn;⟨o,es,ep,keep _ _ e,r⟩;have c:(xh h C rest).get? (h.objs.size+1)=some (sP C h.objs.size none):=by unfold xh;heap_get
 have m:(Value.ref C::bm).contains (.ref C)=true:=by simp
 have f:=T.keeps keep;unfold isInstance
 repeat (first|with_reducible refine z76 c ?_|(with_reducible refine wpAny_isSubtype_exc a ?_;rw[m])|wp_step)
 show wpAny _ _ (typeLookup (.ref C) _) _ _ _;refine wpAny_typeLookup_tail a j f F.mroIs F.init.lookup ?_;rw[s];refine z41 (zX6 (wpAny_of_eq (F.init.bind _) ?_));refine zX6 (yc2 (codeAny_call_builtin F.init.plain F.initEntry (wpAny_check_init_subU F f a c rfl ?_)))
 wp_walk
 refine hq _ (xh h C rest).objs.size (λb o hb=>?_) ?_
 ·rw[zZ2 _ _ (z70 (yb3 (zY6 hb)))];exact zX7 _ (keep _ _ hb)
 ·rw[z49 _ (zX7 _ c) rfl];rfl
theorem zJ5 (j:ExcBaseFacts Bn newId inN bmN)(e:bmB.contains (.type Bn)=true)(F:ExcBaseFacts B nid initId bmB)(T:OwnTail h bmB bm){i:Str->Option Value}{rest:List Value}{Q:Value->Shared->Prop}
  (c:h.get? C=some (excClassObj nm q C N bs bm hdct sn sub ab col dd k0 k1 k2 k3 k5 newId)) (hn:h.Ns N i) (f:i "__init__"=none)
  (hq:∀h' t',(∀b o,h.get? b=some o->h'.get? b=some o)->h'.get? (h.objs.size+1)=some (sP C t' none)->Q (.ref (h.objs.size+1)) ⟨h',g,d,t,os⟩) (a:rest.length<=sizeLine):
  wpAny (model prog w) A (call (.ref C) rest) Q E ⟨h,g,d,t,os⟩:=by
 have f1:=tc_lookup;have f2:=tc_bind (.ref C);have hT:(⟨h,g,d,t,os⟩:Shared).TypeIs (.ref C) "type":=⟨_,c,rfl⟩;refine yc2 (codeAny_of_tree ?_);show wpAny _ _ (callAny (.ref C) _) _ _ _
 repeat (any_goals (first|assumption|with_reducible refine z76 c ?_|wp_step))
 refine⟨rfl,?_⟩;exact codeAny_call_builtin_at (ye7 _ (by decide +kernel)) entry_typeCall (wpAny_check_type_call_sub c (oW j e F T c hn f hq a))
end
section
variable {X:Cx}{pins:List (Addr×Obj)}{σ:St}{H:Hp}{s:Shared}{k:Nat}{f C S:Addr}{fd:FuncData}{ps:List Str}{sp:Sp}{x:Str}{p pos:Pos}{e:Expr}{es:List Expr}{t:TA}
theorem Inv.xmade {h':Heap}{t':Addr}(I:Inv X pins σ H s)(hk:∀b o,s.heap.get? b=some o->h'.get? b=some o)(he:h'.get? (s.heap.objs.size+1)=some (sP C t' none)):Inv X pins σ (upd H (s.heap.objs.size+1) (xcF (s.heap.objs.size+1) C none)) {s with heap:=h'}:=
 I.laid (t':=s.toks) hk (z82 _) (zH2 he)
theorem zP0 (c:va X.K C S (some (.ref f))=true)(B:PySem.W.typeIn X.K (.ref f)=some (.type "function"))(kp:PySem.W.keepIn X.K (.ref C)=true)(F:yv X.prog X.w X.K X.mg X.base CX0 k f fd ps sp)(hr:zG (k+1) X.A)(hg:Gl X x)(hm:X.mg x=some (.ref C))(hb:Binds X.K fd ps [])
  (ha:PA X (e::es) t) (n:(x == ("__debug__":Str))=false:=by decide) (he:starEach (e::es) X.env=(false,eval e X.env)::starEach es X.env:=by rfl) (hpl:(backTo pos (starEach es X.env)).any (·.1)=false:=by rfl):
  PE X (.Call (.Name x p) (e::es) [] pos) (λσ H Q=>t σ H λvs H1=>vs.length<=100/\∀a,H1 a=none->sp (.ref a::vs) (upd H1 a (xcF a C none)) (λv Z=>v=.non/\Q (.ref a) Z) E0):=by
 intro pins s σ H Q I h;refine z71 (xM I hg hm ?_ n);refine z95 (h₀:=X.base) I.ok.mod.kin kp (thn (ha pos pins s σ H _ I h) λus s1 z=>?_) he hpl;obtain⟨vs,H1,j,r,lv,q⟩:=z;refine⟨j.kIn,?_⟩;obtain⟨nm,qn,N,bs,sn,sub,ab,col,dd,k0,k1,k2,k3,k5,mN,Y,O,hi,T,_⟩:=rC j.kIn c;obtain⟨oI,U,M⟩:=zZ3.mp B;have E:=j.kIn _ _ U;have P:=r.length;have hq:=q (s1.heap.objs.size+1) (j.hok.fresh (z82 _));obtain⟨h0,g,d,tk,os⟩:=s1;refine zO1 z86 (by decide +kernel) z86 T Y O hi E M ?_ (by show us.length<=_;rw[z44];exact zs3 P lv);have keep:∀b o,h0.get? b=some o->(xh h0 C us).get? b=some o:=λb o e=>zX7 _ (zX7 _ e);have m:(xh h0 C us).get? (h0.objs.size+1)=some (sP C h0.objs.size none):=by unfold xh;heap_get
 have y:=j.xmade (h':=xh h0 C us) keep m;have G:Vals (V.ref (h0.objs.size+1)::vs) (Value.ref (h0.objs.size+1)::us):=.cons rfl r;have D:(Value.ref (h0.objs.size+1)::us++[]).length=ps.length:=by
  have e:=G.length;rw[F.len _ _ _ _ hq]at e;rw[z45];exact e.symm
 have l:=hb _ (Value.ref (h0.objs.size+1)::us) y.kIn D;rw[z45]at l;refine yc2 (yb5 (F.run _ X.stack _ _ ⟨Value.ref (h0.objs.size+1)::us,[]⟩ _ _ _ E0 (hr.make C us []) (y.env0.make C us []) l G hq) λr s' i=>?_);cases r with
 |error e=>exact(i:False).elim
 |ok fl=>
  cases fl with
  |ret u=>
   obtain⟨v,H',L,J,ev,R⟩:=y.after i;subst ev;exact⟨J,⟨V.ref (h0.objs.size+1),H',L,rfl,R⟩⟩
  |next=>exact False.elim i
  |brk=>exact False.elim i
  |cont=>exact False.elim i
theorem fA (c:va X.K C S none=true)(kp:PySem.W.keepIn X.K (.ref C)=true)(hg:Gl X x)(hm:X.mg x=some (.ref C))
  (ha:PA X (e::es) t) (j:(x == ("__debug__":Str))=false:=by decide) (he:starEach (e::es) X.env=(false,eval e X.env)::starEach es X.env:=by rfl) (hpl:(backTo pos (starEach es X.env)).any (·.1)=false:=by rfl):
  PE X (.Call (.Name x p) (e::es) [] pos) (λσ H Q=>t σ H λvs H1=>vs.length<=100/\∀a,H1 a=none->Q (.ref a) (upd H1 a (xcF a C none))):=by
 intro pins s σ H Q I h;refine z71 (xM I hg hm ?_ j);refine z95 (h₀:=X.base) I.ok.mod.kin kp (thn (ha pos pins s σ H _ I h) λus s1 i=>?_) he hpl;obtain⟨vs,H1,b,r,lv,q⟩:=i;refine⟨b.kIn,?_⟩;obtain⟨nm,o,N,bs,sn,sub,ab,col,dd,k0,k1,k2,k3,k5,u,n,m,hi,T,_⟩:=rC b.kIn c;have l:=r.length;have hq:=q (s1.heap.objs.size+1) (b.hok.fresh (z82 _));obtain⟨h0,g,d,tk,os⟩:=s1;refine zJ5 z86 (by decide +kernel) z86 T n m hi (λh' t' hk he=>?_) (by show us.length<=_;rw[z44];exact zs3 l lv);exact⟨.ref (h0.objs.size+1),_,b.xmade hk he,rfl,hq⟩
theorem ai {X0:Cx}{R:St->Addr->Hp->Prop}{j:TE}{init:Option Value}(c:va X0.K C S init=true)(m:X0.calm=true)(he:PE (X0.wish (XE X0 R)) e j):
  PS (X0.wish (XE X0 R)) (.Raise (some e) none pos) (λD σ H=>j σ H λx H1=>∃a d,x=.ref a/\H1 a=some (xcF a C d)/\R σ a (upd H1 a (xcO a C d))):=by
 intro pins s σ H D I h;show wpAny _ _ (do standAt pos;raiseStmt X0.env (some (do let v <-eval e X0.env;standAt pos;pure v)) none) _ _ _;obtain⟨nm,l,N,bs,sn,sub,ab,col,dd,k0,k1,k2,k3,k5,u,y,w,hi,T,_,_,_,_,o⟩:=rC I.kIn c;refine zX6 (yc9 (zE3 (C:=C) (nm:=nm) (q:=l) (N:=N) (bs:=bs) (bm:=.ref S::bmV) (hdct:=true) (sn:=sn) (sub:=sub) (ab:=ab) (col:=col) (dd:=dd) (k0:=k0) (k1:=k1) (k2:=k2) (k3:=k3) (k5:=k5) (newId:="ValueError.__new__") (T.hasType z86.hasBase) (I.ok.hd m) (zX6 (thn (he pins s σ H _ I h) λv s1 g=>?_))));obtain⟨x,H1,b,n,a,d,ex,i,r⟩:=g;refine zX6 (yc9 (zY4 ?_));subst ex;obtain rfl:v=Value.ref a:=n;obtain⟨t',ha⟩:=b.xat i;exact⟨a,t',d,rfl,b.kIn _ _ o,ha,⟨σ,_,a,rfl,(b.xthaw i).unwish.nopins,⟨C,d,zh⟩,.new ha rfl rfl,r⟩⟩
end
abbrev Cx.held (X:Cx)(pins:List (Addr×Obj)):Cx:={X with pn:=X.pn++pins}
abbrev Cx.suite (X:Cx)(a:Addr):Cx:={X with A:=X.A.mark (some (.ref a)),calm:=false,xe:=λ_ _=>False}
section
variable {X:Cx}{pins:List (Addr×Obj)}{σ:St}{H:Hp}{s:Shared}{a:Addr}{D:Ends}{f:Flow}
theorem Inv.held (I:Inv X pins σ H s):Inv (X.held pins) [] σ H s:=
 ⟨⟨I.ok.mod,I.ok.kind,I.ok.glob,I.ok.blt,I.ok.above,I.ok.inj,I.ok.has,I.ok.cab,I.ok.hd,I.ok.frames,I.ok.stk,I.ok.exf,I.ok.bs,I.ok.bsz,I.ok.noex,I.ok.exfs,I.ok.funs,I.ok.frf⟩,I.os,I.bare,I.base,I.loc,I.cell,I.free,I.freeC,λp b=>I.pin p (by simpa using b),I.hok,I.len⟩
theorem Inv.unheld (I:Inv (X.held pins) [] σ H s):Inv X pins σ H s:=
 ⟨⟨I.ok.mod,I.ok.kind,I.ok.glob,I.ok.blt,I.ok.above,I.ok.inj,I.ok.has,I.ok.cab,I.ok.hd,I.ok.frames,I.ok.stk,I.ok.exf,I.ok.bs,I.ok.bsz,I.ok.noex,I.ok.exfs,I.ok.funs,I.ok.frf⟩,I.os,I.bare,I.base,I.loc,I.cell,I.free,I.freeC,λp b=>I.pin p (by simpa using b),I.hok,I.len⟩
theorem Inv.suite (I:Inv X pins σ H s):Inv (X.suite a) pins σ H s:=
 ⟨⟨I.ok.mod,I.ok.kind,I.ok.glob,I.ok.blt,I.ok.above,I.ok.inj,I.ok.has,I.ok.cab,(λz=>nomatch z),I.ok.frames,I.ok.stk,I.ok.exf,I.ok.bs,I.ok.bsz,I.ok.noex,I.ok.exfs,I.ok.funs,I.ok.frf⟩,I.os,I.bare,I.base,I.loc,I.cell,I.free,I.freeC,I.pin,I.hok,I.len⟩
theorem Inv.unsuite (J:Inv X [] σ H s){b:St}{H':Hp}{s':Shared}(I:Inv (X.suite a) pins b H' s'):Inv X pins b H' s':=
 ⟨J.ok,I.os,I.bare,I.base,I.loc,I.cell,I.free,I.freeC,I.pin,I.hok,I.len⟩
theorem SP.held {E:Value->Shared->Prop}(h:SP ((X.held pins).wish E) [] D f s):SP X pins D f s:=by
 cases f with
 |next=>obtain⟨b,H',I,q⟩:=h;exact⟨b,H',I.unwish.unheld,q⟩
 |brk=>obtain⟨b,H',I,q⟩:=h;exact⟨b,H',I.unwish.unheld,q⟩
 |cont=>obtain⟨b,H',I,q⟩:=h;exact⟨b,H',I.unwish.unheld,q⟩
 |ret u=>obtain⟨v,b,H',I,r,q⟩:=h;exact⟨v,b,H',I.unwish.unheld,r,q⟩
theorem Inv.caught {R:St->Addr->Hp->Prop}{i:Value->Shared->Prop}{Q:Flow->Shared->Prop}{e:Value}{n:List ExceptHandler}(c:X.stack=X.env::X.outer)(h:XE X R e s)
  (k:∀σ H a T s',Inv X [] σ H s'->(∃C d,H a=some (xcO a C d))->R σ a H->H T=none->X.s₀.heap.get? T=none->(∀p∈X.pn,p.1≠T)->Ent s'.heap X.base a T .none->wpAny (model X.prog X.w) X.A (handleBy (.ref a) X.env n) Q i s'):
  wpAny (model X.prog X.w) X.A (noteFrame e X.env) (λ_ b=>wpAny (model X.prog X.w) X.A (setFlight e none) (λ_ g=>wpAny (model X.prog X.w) X.A (handleBy e X.env n) Q i g) i b) i s:=by
 obtain⟨σ,H,a,rfl,I,ha,f,r⟩:=h;refine I.note c ha f λh' T t m q o u=>?_;refine t.flight (fo:=none) c ha m q (by simpa using o) u λv j l=>?_;exact k σ H a T _ j ha r m q o l
theorem zf7 {P:Program}{w:World}{h:Heap}{C:Addr}{d:Option Addr}(hok:HOk P w H h)(e:H a=some (xcO a C d))(hd:∀dx,d=some dx->∃fs,H dx=some (.xd fs)):∃j od,PySem.W.InstAt h a j C od/\od.isSome=d.isSome:=by
 obtain⟨⟨o,vs,b,i,g,c⟩,_⟩:=hok a _ e;cases d with
 |none=>exact⟨o,none,zx0 b i ⟨vs,c⟩ (by rw[g];trivial),rfl⟩
 |some dx=>
  obtain⟨fs,k⟩:=hd dx rfl;obtain⟨mA,⟨od,l,m,e1,_⟩,_⟩:=hok dx _ k;exact⟨o,some od,zx0 b i ⟨vs,c⟩ (by rw[g];exact e1),rfl⟩
end
section
variable {X:Cx}{body suite:List Stmt}{b0:Stmt}{x n:Str}{np hpos pos:Pos}{B:Addr}
def jT (K:PySem.W.Frag)(B:Addr)(R:St->Addr->Hp->Prop):Prop:=∀σ a H,R σ a H->∃C d,H a=some (xcO a C d)/\(∀dx,d=some dx->∃fs,H dx=some (.xd fs))/\XB K C B
theorem zG8 {R:St->Addr->Hp->Prop}(j:X.stack=X.env::X.outer)(hg:Gl X x)(hm:X.mg x=some (.ref B))(w:jT X.K B R)(l:(x == ("__debug__":Str))=false:=by decide):
  PS X (.Try body [.ExceptHandler (some (.Name x np)) none (b0::suite) hpos] [] [] pos) (λD σ H=>(∀pins,oX ((X.held pins).wish (XE (X.held pins) R)) body D σ H)/\
   ∀pins a b H',R b a H'->oX ((X.held pins).suite a) (b0::suite) D b H'):=by
 rintro pins s σ H D I ⟨m,N⟩;obtain⟨P,F,A⟩:=m pins;refine wpAny_Try_except (z31 (F [] s σ H D (I.held.wish _) A) (λf s1 hf=>?_) λe s1 o=>?_)
 ·have hf:=SP.held hf;cases f with
  |next=>exact yd4 hf
  |brk=>exact hf
  |cont=>exact hf
  |ret u=>exact hf
 ·refine Inv.caught (X:=X.held pins) j o λb H' a T s' k ha r t1 t2 t3 ent=>?_;obtain⟨C,d,t,hd,p⟩:=w b a H' r;refine wpAny_handleBy_cons (codeAny_handlers_test (xM (k.suite (a:=a)) hg hm ?_ l)) (by intro q;cases q);obtain⟨O,od,J,_⟩:=zf7 k.hok t hd;obtain⟨h',g',d',E,y⟩:=s';refine zB4 k.kIn p J (codeAny_handlers_suite ?_);refine k.flight (fo:=none) j ha t1 t2 (by simpa using t3) ent λL c _=>?_;obtain⟨ts,p2,G⟩:=N pins a b H' r;refine z31 (p2 [] _ _ H' _ c.suite G) (λf s3 hf=>?_) λ_ _ z=>(z:False).elim;cases f with
  |next=>
   obtain⟨g,H3,i,h⟩:=hf;exact⟨_,H3,(c.unsuite i).unheld,h⟩
  |brk=>
   obtain⟨g,H3,i,h⟩:=hf;exact⟨_,H3,(c.unsuite i).unheld,h⟩
  |cont=>
   obtain⟨g,H3,i,h⟩:=hf;exact⟨_,H3,(c.unsuite i).unheld,h⟩
  |ret u=>
   obtain⟨v,g,H3,i,M,h⟩:=hf;exact⟨v,_,H3,(c.unsuite i).unheld,M,h⟩
end
def xD (C:Addr)(fs:List (PyData×PyData)):PyData:=.dict ((.int (C:Nat),.bool true)::fs)
def xD0 (C:Addr):PyData:=.dict [(.int (C:Nat),.bool false)]
section
variable {G:Hp}{v:V}{C:Addr}{ds:List (PyData×PyData)}
theorem AV.xc_inv (h:AV G v (xD C ds)):∃a dx fs,v=.ref a/\G a=some (xcO a C (some dx))/\G dx=some (.xd fs)/\AVf G fs ds:=by
 generalize e:xD C ds=d at h;cases h with
 |@xc a C' dx fs ds' h1 h2 h3=>
  unfold xD at e;injection e with e;injection e with e1 b;injection e1 with e1 _;injection e1 with e1;have:C=C':=by exact_mod_cast e1
  subst this;subst b;exact⟨a,dx,fs,rfl,h1,h2,h3⟩
 |_=>simp[xD]at e
theorem AV.xn_inv (h:AV G v (xD0 C)):∃a,v=.ref a/\G a=some (xcO a C none):=by
 generalize e:xD0 C=d at h;cases h with
 |@xn a C' h1=>
  unfold xD0 at e;injection e with e;injection e with e1 b;injection e1 with e1 _;injection e1 with e1;have:C=C':=by exact_mod_cast e1
  subst this;exact⟨a,rfl,h1⟩
 |_=>simp[xD0]at e
end
def isX (C:Addr)(d:PyData):Prop:=(∃fs,d=xD C fs)\/d=xD0 C
theorem isX.at {G:Hp}{v:V}{C:Addr}{d:PyData}(x:isX C d)(h:AV G v d):∃a dx,v=.ref a/\G a=some (xcO a C dx)/\∀y,dx=some y->∃fs,G y=some (.xd fs):=by
 rcases x with⟨fs,rfl⟩|rfl
 ·obtain⟨a,dx,c,rfl,b,f,_⟩:=h.xc_inv;exact⟨a,some dx,rfl,b,λy e=>by cases e;exact⟨c,f⟩⟩
 ·obtain⟨a,rfl,b⟩:=h.xn_inv;exact⟨a,none,rfl,b,λy e=>by cases e⟩
theorem M.reidx {F:Fr}{α b:Ev}{σ g:St}{H:Hp}(m:M F α σ H)(f:Nat->Nat)(t:b.length=g.length)(hf:∀(k:Nat) a s,b[k]?=some (some a)->g[k]?=some s->α[f k]?=some (some a)/\σ[f k]?=some s)(inj:∀(k p:Nat) a a',b[k]?=some (some a)->b[p]?=some (some a')->f k=f p->k=p):M F b g H:=by
 have ow:∀{y:Addr},Ow F b g y->Ow F α σ y:=λ{y} h=>by
  rcases h with z|⟨i,c,s,e1,j,fo⟩
  ·exact .inl z
  ·obtain⟨g1,g2⟩:=hf i c s e1 j;exact .inr ⟨_,c,s,g1,g2,fo⟩
 have v:zu (Gz F α σ H) (Gz F b g H):=zm λa o h e=>⟨λz=>h (ow z),e⟩;refine⟨t,λi c s e1 j=>?_,λi n c d s s' x e1 j u w f1 f2=>?_,λi r q e n c s x e1 j fo=>?_,m.tp,m.keep,m.oex⟩
 ·obtain⟨g1,g2⟩:=hf i c s e1 j;exact(m.ok _ c s g1 g2).stay v (λx o fo e=>⟨e,(m.ft g1 g2 fo).1,(m.ft g1 g2 fo).2.1⟩) rfl λ_ _ _ l=>l
 ·obtain⟨g1,g2⟩:=hf i c s e1 u;obtain⟨k1,k2⟩:=hf n d s' j w;exact inj i n c d e1 j (m.dj _ _ c d s s' x g1 k1 g2 k2 f1 f2)
 ·have:i<g.length:=by rw[<-t];exact(zY0.mp e).1
  obtain⟨g1,_⟩:=hf i _ _ e (zY1 this);obtain⟨k1,k2⟩:=hf n c s e1 j;exact m.xd _ r q g1 _ c s x k1 k2 fo
theorem rB {β:Ev}{b:Option A}{k:Nat}{a:A}(h:(β++[b])[k]?=some (some a)):(k<β.length/\β[k]?=some (some a))\/(k=β.length/\b=some a):=by
 rcases z96 k β.length with z|z
 ·rw[z22 z]at h;exact .inl ⟨z,h⟩
 ·rw[z38 z]at h;obtain⟨j,c⟩:∃j,k-β.length=j:=⟨_,rfl⟩;rw[c]at h;cases j with
  |zero=>simp at h;exact .inr ⟨by lia,h⟩
  |succ j=>simp at h
section
variable {F:Fr}{α αh:Ev}{σ:St}{H:Hp}
theorem M.grow (m:M F α σ H):M F (α++[none]) (σ++[none]) H:=by
 have b:=m.len;refine m.reidx id (by rw[z04,z04,b];rfl) (λk a s e1 c=>?_) λ_ _ _ _ _ _ e=>e;rcases rB e1 with⟨z,e⟩|⟨_,e⟩
 ·exact⟨e,by rw[z22 (zX9 z (zZ7 b))]at c;exact c⟩
 ·cases e
theorem M.snoc {v:V}{b:A}{H':Hp}(m:M F α σ H)(t:zA F H')(k:Kz F H H')(hn:∀x,foot (some v) b x->H x=none)(hok:xx (sub (λx=>¬Ow F α σ x/\¬foot (some v) b x) H') F H' (some v) b)(n:noX b:=by trivial):M F (α++[some b]) (σ++[some v]) H':=by
 have g:=m.len;have mg:=m.grow;have ow:∀{y:Addr},Ow F (α++[none]) (σ++[none]) y->Ow F α σ y:=λ{y} h=>by
  rcases h with z|⟨i,c,s,e1,d,fo⟩
  ·exact .inl z
  ·rcases rB e1 with⟨z,e⟩|⟨_,e⟩
   ·exact .inr ⟨i,c,s,e,by rw[z22 (zX9 z (zZ7 g))]at d;exact d,fo⟩
   ·cases e
 have m2:=mg.store (i:=α.length) (v:=v) (b:=b) t k hn (hok.stay (zm λa o h e=>⟨⟨λz=>h.1 (ow z),h.2⟩,e⟩) (λx o f e=>by
  obtain⟨j,p,_⟩:=tY hok f;exact⟨e,j,p⟩) rfl λ_ _ _ l=>l) n
 have e1:(α++[none]).set α.length (some b)=α++[some b]:=by rw[yg5 _ _ (zY3 _),yb9]<;>rfl
 have d:(σ++[none]).set α.length (some v)=σ++[some v]:=by rw[yg5 _ _ (zZ7 g.symm),g,yb9]<;>rfl
 rw[e1,d]at m2;exact m2
theorem M.len' {b:Option A}{s:Option V}(m:M F (α++[b]) (σ++[s]) H):α.length=σ.length:=by
 have:=m.len;rw[z04,z04]at this;exact Nat.add_right_cancel this
theorem M.init {b:Option A}{s:Option V}(m:M F (α++[b]) (σ++[s]) H):M F α σ H:=by
 have c:=m.len';refine m.reidx id c (λk a t e1 d=>?_) λ_ _ _ _ _ _ e=>e;have hk:=(zY0.mp e1).1;exact⟨by show(α++[b])[k]?=_;rw[z22 hk];exact e1,by show(σ++[s])[k]?=_;rw[z22 (zX9 hk (zZ7 c))];exact d⟩
theorem zn8 {S:Addr->Prop}{G H:Hp}{x:Addr}{o:HO}(h:G x=some o)(a:¬S x)(hn:∀xs,o≠.lst xs):uW S G H x=some o:=by
 unfold uW;rw[if_neg a,h];cases o<;>first|rfl|exact absurd rfl (hn _)
theorem dr {S:Addr->Prop}{p:Addr->Prop}{H:Hp}{x:Addr}{o:HO}(h:uW S (sub p H) H x=some o):H x=some o:=by
 rcases lA h with⟨_,z⟩|⟨_,z⟩
 ·exact z
 ·exact(zb z).2
end
structure Xok (X:Cx)(r:Fr)(αh:Ev)(q:PyData->Prop):Prop where
 ex:∃(X0:Cx) (R:St->Addr->Hp->Prop),X=X0.wish (XE X0 R)/\X0.stack=X0.env::X0.outer/\X0.ex=[]/\∀σ d S a H',M r (αh++[some (.deep d S)]) (σ++[some (.ref a)]) H'->q d->R σ a H'
section
variable {F:Fr}{α αh:Ev}{σ:St}{H:Hp}
theorem M.exc {j:Nat}{q:PyData->Prop}(m:M F α σ H)(v:α[j]?=some none):M F (α.set j (some (.exc F q))) σ H:=by
 have d:∀{i:Nat} {c:A},(α.set j (some (.exc F q)))[i]?=some (some c)->(i=j/\c=.exc F q)\/α[i]?=some (some c):=λ{i c} e=>by
  rcases zz e with⟨rfl,z⟩|⟨_,p⟩
  ·cases z;exact .inl ⟨rfl,rfl⟩
  ·exact .inr p
 have ow:∀{y:Addr},Ow F (α.set j (some (.exc F q))) σ y->Ow F α σ y:=λ{y} h=>by
  rcases h with z|⟨i,c,s,e1,b,f⟩
  ·exact .inl z
  ·rcases d e1 with⟨_,rfl⟩|e1
   ·exact f.elim
   ·exact .inr ⟨i,c,s,e1,b,f⟩
 have k:zu (Gz F α σ H) (Gz F (α.set j (some (.exc F q))) σ H):=zm λa o h e=>⟨λz=>h (ow z),e⟩;refine⟨by rw[z28];exact m.len,λi c s e1 b=>?_,λi g c c' s s' x e1 b n u f1 f2=>?_,λi r t e g c s x e1 b f=>?_,m.tp,m.keep,m.oex⟩
 ·rcases d e1 with⟨_,rfl⟩|e1
  ·exact⟨rfl,λ_ z=>z,m.tp,m.keep⟩
  ·exact(m.ok i c s e1 b).stay k (λx o f e=>⟨e,(m.ft e1 b f).1,(m.ft e1 b f).2.1⟩) rfl λ_ _ _ l=>l
 ·rcases d e1 with⟨_,rfl⟩|e1
  ·exact f1.elim
  ·rcases d b with⟨_,rfl⟩|b
   ·exact f2.elim
   ·exact m.dj i g c c' s s' x e1 b n u f1 f2
 ·rcases d e1 with⟨_,rfl⟩|e1
  ·exact f.elim
  ·rcases d e with⟨_,z⟩|e
   ·cases z;exact(m.ft e1 b f).2.1
   ·exact m.xd i r t e g c s x e1 b f
theorem M.back {j:Nat}{r:Fr}{q:PyData->Prop}(m:M F α σ H)(g:α[j]?=some (some (.exc r q)))(t:αh.length=α.length)(le:∀(i:Nat) a,αh[i]?=some (some a)->α[i]?=some (some a)/\noX a):M r αh σ H:=by
 have l:=m.lnk g;have ow:∀{y:Addr},Ow r αh σ y->Ow F α σ y:=λ{y} h=>by
  rcases h with z|⟨i,c,s,e1,b,f⟩
  ·exact .inl (l.o y z)
  ·exact .inr ⟨i,c,s,(le _ _ e1).1,b,f⟩
 have n:zu (Gz F α σ H) (Gz r αh σ H):=zm λa o h e=>⟨λz=>h (ow z),e⟩;refine⟨t.trans m.len,λi c s e1 b=>?_,λi w c d s s' x e1 b=>m.dj i w c d s s' x (le _ _ e1).1 (le _ _ b).1,λi u v e=>((le _ _ e).2:False).elim,l.ok,l.k,λx p=>m.oex x (l.o x p)⟩;refine(m.ok i c s (le _ _ e1).1 b).stay n (λx o f e=>⟨e,λz=>(m.ft (le _ _ e1).1 b f).1 (l.o x z),m.xd j r q g i c s x (le _ _ e1).1 b f⟩) l.tp λu v z=>?_;subst z;exact((le _ _ e1).2:False).elim
end
def leX :Ev->Ev->Prop:=λαh α=>αh.length=α.length/\∀(i:Nat) a,αh[i]?=some (some a)->α[i]?=some (some a)/\noX a
theorem leX.nil {n:Nat}{α:Ev}(h:n=α.length):leX (List.replicate n none) α:=⟨by rw[yb6];exact h,λi a e=>by
 rw[z61]at e;split at e<;>cases e⟩
theorem leX.cons {x y:Option A}{αh α:Ev}(h:x=none\/(x=y/\∀a,x=some a->noX a))(r:leX αh α):leX (x::αh) (y::α):=⟨by rw[z00,z00,r.1],λi a e=>by
 cases i with
 |zero=>
  simp at e;rcases h with h|⟨b,c⟩
  ·rw[h]at e;cases e
  ·subst b;subst e;exact⟨rfl,c _ rfl⟩
 |succ i=>simpa using r.2 i a (by simpa using e)⟩
theorem leX.nil' :leX [] []:=⟨rfl,λi a e=>by simp at e⟩
theorem leX.snoc {αh α:Ev}{b:A}(h:leX αh α)(hb:noX b):leX (αh++[some b]) (α++[some b]):=⟨by rw[z04,z04,h.1],λi a e=>by
 rcases rB e with⟨z,e⟩|⟨z,e⟩
 ·rw[z22 (by rw[<-h.1];exact z)];exact h.2 i a e
 ·cases e;rw[z,h.1,z38 (zY3 _),yb9];exact⟨rfl,hb⟩⟩
theorem M.backS {F:Fr}{α αh:Ev}{σ:St}{H:Hp}{j:Nat}{r:Fr}{q:PyData->Prop}{b:A}{v:V}(m:M F (α++[some b]) (σ++[some v]) H)(c:α[j]?=some (some (.exc r q)))(le:leX αh α)(hb:noX b):M r (αh++[some b]) (σ++[some v]) H:=by
 have a:(α++[some b])[j]?=some (some (.exc r q)):=by rw[z22 (zY0.mp c).1];exact c
 exact m.back a (le.snoc hb).1 (le.snoc hb).2
theorem qw {r:Fr}{αh:Ev}{σ:St}{H':Hp}{d:PyData}{S:Addr->Prop}{a:Addr}(m:M r (αh++[some (.deep d S)]) (σ++[some (.ref a)]) H'):cj r (.ref a) H' (.deep d S):=by
 obtain⟨v,b,f,c⟩:=m.deep αh.length d S (by rw[z38 (zY3 _),yb9]<;>rfl);rw[m.len',z38 (zY3 _),yb9]at b;cases b;exact⟨f.same (vE (zm λa o h e=>⟨ow0 h,e⟩) λ_ _ _ e=>e),c⟩
def spX (φ:List A->(A->Prop)->(PyData->Prop)->Prop):Sp:=λvs H b E=>∃(F:Fr) (as:List A) (Q:A->Prop) (q:PyData->Prop),F.H0=H/\zA F H/\(∀x,F.O0 x->∃o,H x=some o/\wb o)/\zT F (sub (λx=>¬F.O0 x) H) vs as/\φ as Q q/\(∀a v H',Q a->xB F v H' a->b v H')/\∀d S a H',q d->xB F (.ref a) H' (.deep d S)->E (.ref a) none H'
section
variable {P:Program}{w:World}{K:PySem.W.Frag}{mg:Str->Option Value}{base:Heap}
theorem fnX {x qual:Str}{st:Stmt}{f:Addr}{fd:FuncData}{N ps:List Str}{z:Str}{k:Nat}{φ:List A->(A->Prop)->(PyData->Prop)->Prop}(G:Fun K x qual st f fd)(S:zI (N++[z]) ps (zd st))(J:ps.length<=N.length)(hlen:∀as Q q,φ as Q q->as.length=ps.length)
  (c:∀(cdv:Value) (g:Around) (outer:List Env) (s:Shared) (H:Hp) (E:XK) (as:List A) (Q:A->Prop) (q:PyData->Prop) (r:Fr) (xe:Value->Shared->Prop),zG k (g.deeper (envOfC qual (zd st) s.heap.objs.size f cdv))->φ as Q q->Xok ((xr (CX1 P w base) P w K mg base (N++[z]) qual (zd st) f cdv g outer s H E).wish xe) r (List.replicate (N.length+1) none) q->
   SvS ((xr (CX1 P w base) P w K mg base (N++[z]) qual (zd st) f cdv g outer s H E).wish xe) ((as.map some++List.replicate (N.length-as.length) none)++[some (.exc r λ_=>True)]) (zr st) {nx:=λ_=>Q (.dat .none),rt:=Q}):yv P w K mg base (CX1 P w base) (k+1) f fd ps (spX φ):=by
 refine G.okX S (λvs H Q E h=>?_) (λcdv g outer s H vs O E hr h=>?_)
 ·obtain⟨F,as,p,q,_,_,_,i,b,_⟩:=h;rw[i.length,hlen as _ _ b]
 ·obtain⟨F,as,p,q,e,t,o,i,b,n,D⟩:=h;have L:=hlen as _ _ b;have m:=M.start (N:=N++[z]) e t o i;have B:as.map some++List.replicate ((N++[z]).length-as.length) none=(as.map some++List.replicate (N.length-as.length) none)++[none]:=by rw[z04,List.length_singleton,show N.length+1-as.length=(N.length-as.length)+1 by omega,List.replicate_succ',List.append_assoc]
  rw[B]at m;have y:(as.map some++List.replicate (N.length-as.length) (none:Option A)).length=N.length:=by rw[z04,zX8,yb6];lia
  have u:=m.exc (j:=N.length) (q:=λ_=>True) (by rw[z38 (by lia),y,yb9]<;>rfl);have C:((as.map some++List.replicate (N.length-as.length) (none:Option A))++[none]).set N.length (some (A.exc F λ_=>True))=(as.map some++List.replicate (N.length-as.length) none)++[some (.exc F λ_=>True)]:=by rw[yg5 _ _ (by lia),y,yb9]<;>rfl
  rw[C]at u;refine c cdv g outer s H E as p q F _ hr b ⟨_,_,rfl,rfl,rfl,λσ d S a H' l I=>D d S a H' I ⟨l.tp,l.keep,qw l⟩⟩ F _ H _ u ⟨λα σ H' m q=>?_,λa v H' r q=>n a v H' q r,λ_ _ _ _ z=>z.elim,λ_ _ _ _ z=>z.elim⟩;exact n _ _ _ q ⟨m.tp,m.keep,.non⟩
end
structure zi0 (P:Program)(w:World)(K:PySem.W.Frag)(mg:Str->Option Value)(base:Heap)(x:Str)(k:Nat)(φ:List A->(A->Prop)->(PyData->Prop)->Prop):Prop where
 ex:∃f fd ps,mg x=some (.ref f)/\PySem.W.keepIn K (.ref f)=true/\Binds K fd ps []/\yv P w K mg base (CX1 P w base) k f fd ps (spX φ)
structure zB8 (K:PySem.W.Frag)(mg:Str->Option Value)(x:Str)(C:Addr):Prop where
 m:mg x=some (.ref C)
 kp:PySem.W.keepIn K (.ref C)=true
 ex:∃S,va K C S none=true
section
variable {X:Cx}{α αh:Ev}{r:Fr}{q q0:PyData->Prop}{j k:Nat}{x fl:Str}{C:Addr}{e:Expr}{es:List Expr}{p pos pos':Pos}{rest:List Stmt}{E:yi}
theorem gY (u:Xok X r αh q)(s:X.calm=true)(g:zB8 X.K X.mg x C)(hg:Gl X x)(l:α[j]?=some (some (.exc r q0)))(le:leX αh α)(h:EvD X α e λ_=>q (xD0 C))
  (f:(x == ("__debug__":Str))=false:=by decide) (he:starEach [e] X.env=(false,eval e X.env)::starEach [] X.env:=by rfl):SvS X α (.Raise (some (.Call (.Name x p) [e] [] pos)) none pos'::rest) E:=λF σ H D m B=>by
 obtain⟨X0,R,rfl,w,G,n⟩:=u.ex;obtain⟨S,c⟩:=g.ex;refine⟨_,zv (ai c s (fA (X:=X0.wish (XE X0 R)) c g.kp hg g.m (zy zf zW he) f he)) zB,?_⟩;refine h F σ H _ m λd v H1 t t1 k1 A=>?_;refine⟨z35 rfl,λa ha=>⟨a,none,rfl,zh,?_⟩⟩;have m1:=m.kz k1 t1;rw[sk];have i:zu H1 (upd H1 a (xcO a C none)):=λy o e=>by rw[zc (λz=>by rw[z,ha]at e;cases e)];exact e
 have m3:=m1.snoc (v:=.ref a) (b:=.deep (xD0 C) λ_=>False) (H':=upd H1 a (xcO a C none)) (m1.tp.same i) (Kz.of_same i) (λx z=>z.elim) ⟨_,rfl,.xn (zn8 (zt ⟨m1.fresh ha,λz=>z⟩ zh) (λz=>z) λxs z=>by cases z),λx z=>z.elim⟩;exact n σ _ _ a _ (m3.backS l le trivial) t
theorem zd1 {X0:Cx}{R:St->Addr->Hp->Prop}{f:Addr}{fd:FuncData}{ps:List Str}{sp:Sp}{t:TA}(hex:X0.ex=[])(F:yv X0.prog X0.w X0.K X0.mg X0.base (CX1 X0.prog X0.w X0.base) k f fd ps sp)(hr:zG k X0.A)(hg:Gl X0 x)(hm:X0.mg x=some (.ref f))(hk:PySem.W.keepIn X0.K (.ref f)=true)(hb:Binds X0.K fd ps [])
  (ha:PA (X0.wish (XE X0 R)) (e::es) t) (d:(x == ("__debug__":Str))=false:=by decide) (he:starEach (e::es) X0.env=(false,eval e X0.env)::starEach es X0.env:=by rfl) (hpl:(backTo pos (starEach es X0.env)).any (·.1)=false:=by rfl):
  PE (X0.wish (XE X0 R)) (.Call (.Name x p) (e::es) [] pos) (λσ H Q=>t σ H λvs H1=>∃E:XK,(∀a H',E (.ref a) none H'->R σ a H')/\sp vs H1 Q E):=by
 intro pins s σ H Q I h;refine z71 (xM I hg hm ?_ d);refine z95 (h₀:=X0.base) I.ok.mod.kin hk (thn (ha pos pins s σ H _ I h) λus s1 g=>?_) he hpl;obtain⟨vs,H1,b,r,E,i,q⟩:=g;refine⟨b.kIn,?_⟩;have l:(us++[]).length=ps.length:=by rw[z45,<-r.length];exact F.len _ _ _ _ q
 have c:=hb s1 us b.kIn l;rw[z45]at c;refine yc2 (yb5 (F.run X0.A X0.stack s1 H1 ⟨us,[]⟩ us vs Q E hr b.env0 c r q) λr s' hq=>?_);cases r with
 |error e=>exact zn4 hex b.unwish hq i
 |ok fl=>
  cases fl with
  |ret u=>exact b.after hq
  |next=>exact False.elim hq
  |brk=>exact False.elim hq
  |cont=>exact False.elim hq
variable {φ:List A->(A->Prop)->(PyData->Prop)->Prop}{Q:PyData->Prop}
theorem mE {F:Fr}{σ:St}{H:Hp}{vs:List V}{as:List A}{i:A->Prop}{n:VK}{R:St->Addr->Hp->Prop}(m:M F α σ H)(s:α[j]?=some (some (.exc r q0)))(le:leX αh α)(D:∀σ d S a H',M r (αh++[some (.deep d S)]) (σ++[some (.ref a)]) H'->q d->R σ a H')(w:zT F (Gz F α σ H) vs as)(g:φ as i q)
  (B:∀a v H',i a->xB ⟨H,Ow F α σ,F.tp⟩ v H' a->n v H'):∃E:XK,(∀a H',E (.ref a) none H'->R σ a H')/\spX φ vs H n E:=by
 refine⟨λv _ H'=>∃a,v=.ref a/\∃d S,q d/\xB ⟨H,Ow F α σ,F.tp⟩ (.ref a) H' (.deep d S),λa H' h=>?_,⟨⟨H,Ow F α σ,F.tp⟩,as,i,q,rfl,m.tp.to rfl λ_ z=>.inl z,λy z=>m.owEx z,zT.to (F:=F) (F':=⟨H,Ow F α σ,F.tp⟩) (λ_ _ e=>e) rfl w,g,B,λd S a H' l c=>⟨a,rfl,d,S,l,c⟩⟩⟩;obtain⟨I,e,d,S,l,c⟩:=h;cases e;obtain⟨g1,g2,_⟩:=c.back m;obtain⟨_,_,g3,f⟩:=c;have m3:=m.snoc (v:=.ref a) (b:=.deep d S) (H':=H') g1 g2 (λx z=>(f x z).2.1) ⟨_,rfl,g3.same λx o e=>?_,λx z=>⟨ow0 (f x z).1,m.fresh0 (f x z).2.1,(f x z).2.2⟩⟩
 ·exact D σ d S a H' (m3.backS s le trivial) l
 ·unfold uW at e ⊢;by_cases z:S x
  ·rw[if_pos z]at e ⊢;exact e
  ·rw[if_neg z]at e ⊢;cases q:sub (λx=>¬Ow F α σ x) H' x with
   |none=>rw[q]at e;cases e
   |some u=>
    obtain⟨t,G⟩:=zb q;rw[zt (p:=λx=>¬Ow F α σ x/\¬foot (some (V.ref a)) (.deep d S) x) ⟨t,z⟩ G];rw[q]at e;exact e
theorem zl4 {Q:List PyData->Prop}(M:Xok X r αh q)(t:α[j]?=some (some (.exc r q0)))(le:leX αh α)(C:zi0 X.prog X.w X.K X.mg X.base x k φ)(hr:zG k X.A)(hg:Gl X x)(h:EvA X α (e::es) λas=>φ as (λa=>∃ds,a=.own ds/\Q ds) q)
  (b:(x == ("__debug__":Str))=false:=by decide) (he:starEach (e::es) X.env=(false,eval e X.env)::starEach es X.env:=by rfl) (hpl:(backTo pos (starEach es X.env)).any (·.1)=false:=by rfl):EvL X α (.Call (.Name x p) (e::es) [] pos) Q:=λF σ H O m u=>by
 obtain⟨X0,R,rfl,N,L,y⟩:=M.ex;obtain⟨f,fd,ps,s,I,n,d⟩:=C.ex;refine⟨_,zd1 L d hr hg s I n yt b he hpl,?_⟩;refine h F σ H _ m λas vs H1 J t1 k1 B=>?_;have m1:=m.kz k1 t1;refine mE m1 t le y B J λa v H' i c=>?_;obtain⟨ds,rfl,G⟩:=i;obtain⟨g1,g2,_⟩:=c.back m1;obtain⟨_,_,l,xs,ds',rfl,z,o,P,D,g⟩:=c;cases z;exact u ds _ H' G g1 (k1.trans g2) (yJ.back m k1 t1 ⟨l,xs,rfl,o,D,g⟩)
end
section
variable {P:Program}{w:World}{K:PySem.W.Frag}{mg:Str->Option Value}{base:Heap}
theorem zU5 {x qual:Str}{st:Stmt}{f:Addr}{fd:FuncData}{N ps:List Str}{z:Str}{k:Nat}{φ:List A->(A->Prop)->(PyData->Prop)->Prop}(G:Fun K x qual st f fd)(hm:mg x=some (.ref f))(hb:Binds K fd ps [])(S:zI (N++[z]) ps (zd st))(c:ps.length<=N.length)(hlen:∀as Q q,φ as Q q->as.length=ps.length)
  (a:∀(cdv:Value) (b:Around) (outer:List Env) (s:Shared) (H:Hp) (E:XK) (as:List A) (Q:A->Prop) (q:PyData->Prop) (r:Fr) (xe:Value->Shared->Prop),zG k (b.deeper (envOfC qual (zd st) s.heap.objs.size f cdv))->φ as Q q->Xok ((xr (CX1 P w base) P w K mg base (N++[z]) qual (zd st) f cdv b outer s H E).wish xe) r (List.replicate (N.length+1) none) q->
   SvS ((xr (CX1 P w base) P w K mg base (N++[z]) qual (zd st) f cdv b outer s H E).wish xe) ((as.map some++List.replicate (N.length-as.length) none)++[some (.exc r λ_=>True)]) (zr st) {nx:=λ_=>Q (.dat .none),rt:=Q}):zi0 P w K mg base x (k+1) φ:=
 ⟨f,fd,ps,hm,G.kp,hb,fnX G S c hlen a⟩
end
section
variable {X:Cx}{α αh:Ev}{q:PyData->Prop}{i j:Nat}{x n:Str}{B:Addr}{body suite rest:List Stmt}{b0:Stmt}{np hpos pos:Pos}{E:yi}
theorem jb {K:PySem.W.Frag}{r:Fr}{αh:Ev}(hq:∀d,q d->∃C,isX C d/\XB K C B):jT K B (λσ a H=>∃d S,M r (αh++[some (.deep d S)]) (σ++[some (.ref a)]) H/\q d):=λσ a H c=>by
 obtain⟨d,S,m,g⟩:=c;obtain⟨C,x,b⟩:=hq d g;obtain⟨av,_⟩:=qw m;obtain⟨l,dx,e,f,k⟩:=x.at av;cases e;exact⟨C,dx,dr f,λy e=>by obtain⟨fs,h⟩:=k y e;exact⟨fs,dr h⟩,b⟩
theorem oB {β:Ev}{j:Nat}{a:A}{i:Nat}(e:(β.set j none)[i]?=some (some a)):β[i]?=some (some a):=by
 rcases zz e with⟨_,z⟩|⟨_,z⟩
 ·cases z
 ·exact z
theorem M.drop {F:Fr}{β:Ev}{σ:St}{H:Hp}{j:Nat}(m:M F β σ H):M F (β.set j none) σ H:=m.forget (by rw[z28]) λi a e=>oB e
theorem aJ (j:Nat)(αh:Ev)(q:PyData->Prop)(g:X.stack=X.env::X.outer)(hex:X.ex=[])(p:α[j]?=some none)(le:leX αh α)(hg:Gl X x)(hm:X.mg x=some (.ref B))(hq:∀d,q d->∃C,isX C d/\XB X.K C B)
  (o:∀(pins:List (Addr×Obj)) (xe:Value->Shared->Prop) (r:Fr),Xok ((X.held pins).wish xe) r αh q->SvS ((X.held pins).wish xe) (α.set j (some (.exc r λ_=>True))) body {nx:=λb=>SvS X (b.set j none) rest E,rt:=E.rt,bk:=λb=>E.bk (b.set j none),ct:=λb=>E.ct (b.set j none)})
  (t:∀(pins:List (Addr×Obj)) (a:Addr) d,q d->SvS ((X.held pins).suite a) αh (b0::suite) {nx:=λb=>SvS X b rest E,rt:=E.rt,bk:=E.bk,ct:=E.ct})
  (h:(x == ("__debug__":Str))=false:=by decide):
  SvS X α (.Try body [.ExceptHandler (some (.Name x np)) none (b0::suite) hpos] [] [] pos::rest) E:=λF σ H D m e=>by
 refine⟨_,zv (zG8 (R:=λσ a H=>∃d S,M F (αh++[some (.deep d S)]) (σ++[some (.ref a)]) H/\q d) g hg hm (jb hq) h) zB,λpins=>?_,λpins a c H' s=>?_⟩
 ·refine o pins _ F ⟨_,_,rfl,g,hex,λσ d S a H' l k=>⟨d,S,l,k⟩⟩ F σ H _ (m.exc p) ⟨λb c H' f z=>?_,e.rt,λb c H' f z=>e.bk _ _ _ f.drop z,λb c H' f z=>e.ct _ _ _ f.drop z⟩;exact z F c H' D f.drop e
 ·obtain⟨d,S,l,k⟩:=s;refine t pins a d k F _ H' _ l.init ⟨λb c H' f z=>?_,e.rt,e.bk,e.ct⟩;exact z F _ H' D f e
end
section
variable {X:Cx}{α:Ev}{p p1 pos:Pos}{a:Expr}{Q:PyData->Prop}{C S:Addr}{init:Option Value}
end
section
variable {X:Cx}{α:Ev}{pos:Pos}{o:Expr}{f:Str}{Q:PyData->Prop}{C S:Addr}{init:Option Value}
end
section
variable {P:Program}{w:World}{K:PySem.W.Frag}{mg:Str->Option Value}{base:Heap}
end
section
variable {X:Cx}{α αh:Ev}{r:Fr}{q q0:PyData->Prop}{j k:Nat}{x fl:Str}{C:Addr}{e:Expr}{es:List Expr}{p pos pos':Pos}{rest:List Stmt}{E:yi}
end
section
variable {P:Program}{w:World}{K:PySem.W.Frag}{mg:Str->Option Value}{base:Heap}
end
def ke (K:Frag)(C S:Addr)(init:Option Value):Bool:=va K C S init&&findIn K (.ref C) "__setattr__" == some (some (.builtin "object.__setattr__"))&&findIn K (.ref C) "__getattribute__" == some (some (.builtin "BaseException.__getattribute__"))&&findIn K (.ref C) "__getattr__" == some none&&findIn K (.ref C) "__class__" == some (some (.builtin "object.__class__"))&&specialIn K (.builtin "object.__class__") "__get__" == some (some (.builtin "getset_descriptor.__get__"))&&takesIn K (.builtin "object.__class__")==some true
theorem XC.of {K:Frag}{C S:Addr}{init:Option Value}(h:ke K C S init=true):XC K C S init:=by
 simp only[ke,z07,yc1]at h;obtain⟨⟨⟨⟨⟨⟨d,e⟩,c⟩,f⟩,g⟩,a⟩,b⟩:=h;exact⟨d,e,c,f,g,a,b⟩
def dq (K:Frag)(C B:Addr):Bool:=typeIn K (.ref B)==some (.type "type")&&mroIn K B (.type "BaseException")==some true&&mroIn K C (.ref B)==some true
theorem XB.of {K:Frag}{C B:Addr}(h:dq K C B=true):XB K C B:=by
 simp only[dq,z07,yc1]at h;exact⟨h.1.1,h.1.2,h.2⟩
section
variable {P:Program}{w:World}{K:PySem.W.Frag}{mg:Str->Option Value}{base:Heap}
end
section
variable {X:Cx}{α αh:Ev}{r:Fr}{q q0:PyData->Prop}{j k:Nat}{x fl:Str}{C:Addr}{e:Expr}{es:List Expr}{p pos pos':Pos}{rest:List Stmt}{E:yi}{Q:PyData->Prop}{φ:List A->(PyData->Prop)->Prop}
end
def zS5 :Option A->Option A
 |some .tape=>none
 |some (.exc _ _)=>none
 |a=>a
def xg (α:Ev):Ev:=α.map zS5
def af :A->Prop
 |.tape=>False
 |.exc _ _=>False
 |_=>True
theorem xw {α:Ev}{i:Nat}{a:A}(h:(xg α)[i]?=some (some a)):α[i]?=some (some a)/\af a:=by
 unfold xg at h;rw[zY7,zZ3]at h;obtain⟨b,d,c⟩:=h;cases b with
 |none=>cases c
 |some b=>cases b<;>cases c<;>exact⟨d,trivial⟩
theorem xx.to {G p:Hp}{F F':Fr}{H H':Hp}{s:Option V}{a:A}(n:af a)(h:xx G F H s a)(g:zu G p)(hf:∀x o,foot s a x->H x=some o->H' x=some o/\¬F'.O0 x/\F'.H0 x=none):xx p F' H' s a:=by
 cases a with
 |dat d=>obtain⟨v,b,f⟩:=h;exact⟨v,b,f.same g⟩
 |ow c=>
  obtain⟨l,o,b,f,i,t,u⟩:=h;obtain⟨k,m,z3⟩:=hf l o b f;exact⟨l,o,b,k,i.same g,m,z3⟩
 |deep d S=>
  obtain⟨v,b,f,i⟩:=h;refine⟨v,b,f.same (vE g λx o z e=>(hf x o z e).1),λx z=>?_⟩;obtain⟨_,_,xs,e⟩:=i x z;obtain⟨k,m,z3⟩:=hf x _ z e;exact⟨m,z3,xs,k⟩
 |tape=>exact n.elim
 |«at» l=>exact h
 |exc r q=>exact n.elim
 |pin l vs ds=>exact⟨h.1,g _ _ h.2.1,h.2.2.same g⟩
 |nst l ls dss=>
  obtain⟨b,f,i,t,u⟩:=h;refine⟨b,(hf l _ zY9 f).1,i.same g λa ha o e=>(hf a o (zY5 _ ha) e).1,t,λx j=>?_⟩;rcases zY2.mp j with z|z
  ·exact(hf x _ j (z▸f)).2
  ·obtain⟨xs,e⟩:=i.obj x z;exact(hf x _ j e).2
def Tp (F:Fr)(x:Addr):Prop:=∃t b c,F.tp=some (t,b,c)/\(x=t\/x=b\/x=c)
noncomputable instance tpDec (F:Fr)(x:Addr):Decidable (Tp F x):=Classical.propDecidable _
noncomputable def Fr.row (F:Fr)(H:Hp)(l:Addr):Fr:=⟨λx=>if Tp F x then H x else F.H0 x,λx=>F.O0 x\/x=l,some (l,l,l)⟩
section
variable {F:Fr}{α α':Ev}{σ σ':St}{H H':Hp}{l:Addr}
theorem Tp.own (t:zA F H){x:Addr}(h:Tp F x):F.O0 x:=by
 obtain⟨a,b,c,e,z⟩:=h;obtain⟨_,f,g,d⟩:=t a b c e;rcases z with z|z|z
 ·rw[z];exact f
 ·rw[z];exact g
 ·rw[z];exact d
theorem Tp.lst (t:zA F H){x:Addr}(h:Tp F x):∃xs,H x=some (.lst xs):=by
 obtain⟨a,b,c,e,z⟩:=h;obtain⟨n,bs,cs,n1,e1,d,f,_⟩:=(t a b c e).1.ex;rcases z with z|z|z
 ·rw[z];exact⟨_,e1⟩
 ·rw[z];exact⟨_,d⟩
 ·rw[z];exact⟨_,f⟩
theorem Tp.noTab (t:zA F H){x:Addr}(h:Tp F x):¬tH x:=λz=>by
 obtain⟨o,e,_,n⟩:=tV t.tab z;obtain⟨xs,a⟩:=Tp.lst t h;rw[e]at a;cases a;exact n _ rfl
theorem nu (t:zA F H){x:Addr}(h:(F.row H l).H0 x=none):F.H0 x=none:=by
 have h':(if Tp F x then H x else F.H0 x)=none:=h;split at h'
 ·rename_i q;obtain⟨xs,e⟩:=Tp.lst t q;rw[e]at h';cases h'
 ·exact h'
theorem M.row {i:Nat}{x y:Int}(m:M F α σ H)(hi:α[i]?=some (some (.own [.int x,.int y])))(h0:0<=y)(D:y<4294967296):∃l,F.H0 l=none/\¬F.O0 l/\M (F.row H l) ((xg α).set i (some .tape)) σ H:=by
 obtain⟨l,xs,e1,p,O,E,L⟩:=m.own i _ hi;have ex:xs=[.int x,.int y]:=by
  cases O with
  |cons a r=>
   cases r with
   |cons b r=>
    cases r;rw[a.int_inv,b.int_inv]
 subst ex;have old:∀{j:Nat} {a:A},((xg α).set i (some .tape))[j]?=some (some a)->(i=j/\a=.tape)\/(i≠j/\α[j]?=some (some a)/\af a):=λ{j a} e=>by
  rcases zz e with⟨z,w⟩|⟨z,w⟩
  ·cases w;exact .inl ⟨z,rfl⟩
  ·obtain⟨g,k⟩:=xw w;exact .inr ⟨z,g,k⟩
 have ow:∀{z:Addr},Ow (F.row H l) ((xg α).set i (some .tape)) σ z->Ow F α σ z:=λ{z} h=>by
  rcases h with(h|h)|⟨j,a,s,g,k,C⟩
  ·exact .inl h
  ·rw[h];exact .inr ⟨i,_,_,hi,e1,rfl⟩
  ·rcases old g with⟨_,q⟩|⟨_,q,_⟩
   ·subst q;exact C.elim
   ·exact .inr ⟨j,a,s,q,k,C⟩
 have K:zu (Gz F α σ H) (Gz (F.row H l) ((xg α).set i (some .tape)) σ H):=zm λa o h e=>⟨λz=>h (ow z),e⟩;refine⟨l,L,E,?_,λj a s v d=>?_,λj J a b s t z v d I N f1 f2=>?_,λj r q e=>?_,⟨m.tp.tab,λx h=>.inl (m.tp.ot x h),λt b c e=>?_⟩,λz o e n=>?_,λz hz=>?_⟩
 ·rw[z28];unfold xg;rw[zX8];exact m.len
 ·rcases old v with⟨z,q⟩|⟨G,q,u⟩
  ·subst z q;rw[e1]at d;cases d;exact⟨l,l,l,rfl,rfl⟩
  ·refine(m.ok j a s q d).to u K λx o f e=>?_;obtain⟨g1,g2,_⟩:=m.ft q d f;refine⟨e,λz=>z.elim g1 λz=>G (m.dj i j _ _ _ _ x hi q e1 d (by rw[z];exact rfl) f),?_⟩;show(if Tp F x then H x else F.H0 x)=none;rw[if_neg λz=>g1 (Tp.own m.tp z)];exact g2
 ·rcases old v with⟨_,q⟩|⟨_,g,_⟩
  ·subst q;exact f1.elim
  ·rcases old d with⟨_,q⟩|⟨_,k,_⟩
   ·subst q;exact f2.elim
   ·exact m.dj j J a b s t z g k I N f1 f2
 ·rcases old e with⟨_,q⟩|⟨_,_,u⟩
  ·cases q
  ·exact u.elim
 ·cases e;exact⟨⟨0,[x,y],[x,y],⟨rfl,rfl⟩,p,p,p,⟨x,y,rfl,h0,D⟩,rfl⟩,.inr rfl,.inr rfl,.inr rfl⟩
 ·have B:(if Tp F z then H z else F.H0 z)=some o:=e;split at B
  ·exact B
  ·rename_i q;exact m.keep z o B ⟨λt b c w=>⟨λy=>q ⟨t,b,c,w,.inl y⟩,λy=>q ⟨t,b,c,w,.inr (.inl y)⟩⟩,n.2⟩
 ·rcases hz with z|z
  ·exact m.oex _ z
  ·exact⟨_,by rw[z];exact p,wu⟩
theorem zA.unrow (t:zA F H)(m:¬F.O0 l)(f:TabAt H')(k:Kz (F.row H l) (F.row H l).H0 H'):zA F H':=⟨f,t.ot,λa b c e=>by
 obtain⟨g,n,j,h⟩:=t a b c e;refine⟨g.off λz hz=>?_,n,j,h⟩;have tz:Tp F z:=⟨a,b,c,e,hz⟩;have i:F.O0 z:=Tp.own t tz;have nl:z≠l:=λq=>m (by rw[<-q];exact i);obtain⟨xs,d⟩:=Tp.lst t tz;rw[d];refine k z _ ?_ ⟨λt' o c' w=>by cases w;exact⟨nl,nl⟩,Tp.noTab t tz⟩;show(if Tp F z then H z else F.H0 z)=some _;rw[if_pos tz];exact d⟩
theorem Kz.unrow (m:M F α σ H)(h0:F.H0 l=none)(k:Kz (F.row H l) (F.row H l).H0 H'):Kz F F.H0 H':=λx o e n=>by
 have nl:x≠l:=λq=>by rw[q,h0]at e;cases e
 refine k x o ?_ ⟨λt' a c' w=>by cases w;exact⟨nl,nl⟩,n.2⟩;show(if Tp F x then H x else F.H0 x)=some o;split
 ·exact m.keep x o e n
 ·exact e
theorem M.unrow (m:M F α σ H)(h0:F.H0 l=none)(w:¬F.O0 l)(c:M (F.row H l) α' σ' H'):M F (xg α') σ' H':=by
 have ow:∀{z:Addr},Ow F (xg α') σ' z->Ow (F.row H l) α' σ' z:=λ{z} h=>by
  rcases h with h|⟨j,a,s,g,v,k⟩
  ·exact .inl (.inl h)
  ·exact .inr ⟨j,a,s,(xw g).1,v,k⟩
 have p:zu (Gz (F.row H l) α' σ' H') (Gz F (xg α') σ' H'):=zm λa o h e=>⟨λz=>h (ow z),e⟩;refine⟨?_,λj a s i d=>?_,λj n a b s t z i d=>c.dj j n a b s t z (xw i).1 (xw d).1,λj r q e=>?_,m.tp.unrow w c.tp.tab c.keep,Kz.unrow m h0 c.keep,λz hz=>c.oex z (.inl hz)⟩
 ·unfold xg;rw[zX8];exact c.len
 ·obtain⟨g,u⟩:=xw i;refine(c.ok j a s g d).to u p λx o f e=>?_;obtain⟨g1,g2,_⟩:=c.ft g d f;exact⟨e,λz=>g1 (.inl z),nu m.tp g2⟩
 ·exact(xw e).2.elim
theorem xB.unrow {v:V}{a:A}(m:M F α σ H)(h0:F.H0 l=none)(b:¬F.O0 l)(r:xB (F.row H l) v H' a):xB F v H' a:=by
 obtain⟨t,k,r⟩:=r;exact⟨m.tp.unrow b t.tab k,Kz.unrow m h0 k,r.to (λ_ z=>.inl z) λx z=>nu m.tp z⟩
end
section
variable {X:Cx}{α:Ev}{E:yi}{sts rest body:List Stmt}{tg iter:Expr}{pos:Pos}
theorem zJ6 (i:Nat){x y:Int}(hi:α[i]?=some (some (.own [.int x,.int y])))(h0:0<=y)(g:y<4294967296)
  (h:SvS X ((xg α).set i (some .tape)) sts {nx:=λb=>E.nx (xg b),rt:=E.rt,bk:=λb=>E.bk (xg b),ct:=λb=>E.ct (xg b)}):SvS X α sts E:=λF σ H D m r=>by
 obtain⟨l,f,e,j⟩:=m.row hi h0 g;refine h _ σ H D j ⟨λb d H' c q=>r.nx _ _ _ (m.unrow f e c) q,λa v H' z q=>r.rt a v H' (z.unrow m f e) q,λb d H' c q=>r.bk _ _ _ (m.unrow f e c) q,λb d H' c q=>r.ct _ _ _ (m.unrow f e c) q⟩
theorem zD3 {pat:Pat}{F:Fr}{σ:St}{H:Hp}{D:Ends}(C:PassesOwn (model X.prog X.w) X.A X.env X.xe)(N:X.calm=true)(hg:PG X tg (qt X.K pat))(m:M F α σ H)(r:qq F E D)
  (h:∀R:It->Hp->Prop,(∀ds J H',wM X pat body rest E ds α->zA F H'->Kz F H H'->ItW (λx=>¬Ow F α σ x) J ds (Gz F α σ H')->R J H')->zj4 X tg iter σ H R)
  (L:∀x,foldedSetIterable iter X.env x=pure x):oX X (.For tg iter body [] pos::rest) D σ H:=by
 refine⟨_,zv (eY C N uw hg zB L) zB,?_⟩;refine h _ λds J H1 S t1 k1 u=>?_;have m1:=m.kz k1 t1;have T:=m1.up;have s:qq (F.up (Gz F α σ H1)) E D:=r.up;refine⟨λi n g H'=>n=ds.length-i/\i<=ds.length/\∃b,M (F.up (Gz F α σ H1)) b g H'/\wM X pat body rest E (ds.drop i) b,⟨ds.length,by simp,zZ6 _,α,T,S⟩,?_⟩;rintro i n g H' ⟨rfl,hi,b,p,lw⟩;obtain⟨G,O⟩:=u i H' _ (m1.upold p);by_cases c:i<ds.length
 ·have hd:ds[i]?=some ds[i]:=zY1 c;rw[z88 c]at lw;obtain⟨I,U,body⟩:=lw;obtain⟨go,P⟩:=G _ hd;refine .inr ⟨go,λf k=>∃b,M (F.up (Gz F α σ H1)) b f k/\wM X pat _ rest E (ds.drop (i+1)) b,λf k ⟨j,Q,B⟩=>⟨ds.length-(i+1),(om0 c),rfl,c,j,Q,B⟩,λx H3 y=>?_⟩;obtain⟨l,t⟩:=P x H3 y;have m3:=p.kz (Kz.of_same l) (p.tp.same l);refine pZ U m3 (t λa o _ e=>p.fresh e) λz m4=>?_;exact body _ z H3 _ m4 ⟨λd σ2 v m2 q=>⟨d,m2,q⟩,s.rt,λd σ2 v m2 q=>q _ σ2 v D m2 s,λd σ2 v m2 q=>⟨d,m2,q⟩⟩
 ·have e:i=ds.length:=(z77 hi (z72 c));subst e;rw[yc5]at lw;exact .inl ⟨O (zY3 _),lw _ g H' D p s⟩
end
section
variable {P:Program}{w:World}{K:PySem.W.Frag}{mg:Str->Option Value}{base:Heap}
def fr0 (H:Hp):Fr:=⟨H,tH,none⟩
theorem M.zero {H:Hp}{σ:St}{n:Nat}(d:TabAt H)(k:n=σ.length):M (fr0 H) (List.replicate n none) σ H:=by
 have no:∀(i:Nat) a,(List.replicate n (none:Option A))[i]?≠some (some a):=λi a z=>by
  rw[z61]at z;split at z<;>cases z
 exact⟨by rw[yb6];exact k,λi a s e=>absurd e (no i _),λi j a b s t l e=>absurd e (no i _),λi r q e=>absurd e (no i _),⟨d,λ_ h=>h,λt b c e=>by (cases e)⟩,λ_ _ e _=>e,λx g=>by
  obtain⟨o,f,hn,_⟩:=tV d g;exact⟨o,f,hn⟩⟩
theorem SqL.same {H H':Hp}{a:Addr}{xs:List V}(h:SqL K H a xs)(s:zu H H'):SqL K H' a xs:=by
 rcases h with(h|⟨o,h⟩)|h
 ·exact .inl (.inl (s _ _ h))
 ·exact .inl (.inr ⟨o,s _ _ h⟩)
 ·exact .inr h
theorem zU6 {st:Stmt}{f:Addr}{fd:FuncData}{g:List Str}{k:Nat}{x:Str}{pt:Pos}{T p1 p2 p3 p4 p5 p6 N:Pos}{n0 n1:Nat}{u:Int}{body rest:List Stmt}{j:Nat}(G:Fun K "law" "law" st f fd)(S:zI ("_law_script"::g) ["_law_script"] (zd st))
  (hb:zr st=.For (.Name x pt) (.BinOp (.List [.Constant (.int 0) n0 T] p1) .Add (.Subscript (.Name "_law_script" p2) (.Slice none (some (.Constant (.int u) n1 p3)) none p4) p5) p6) body [] N::rest)
  (hv:Vis (zd st) "_law_script") (X:(("_law_script":Str)::g)[j]?=some x) (o:Loc (zd st) x)
  (n:∀(cdv:Value) (t:Around) (outer:List Env) (s:Shared) (H:Hp) (E:XK) (zs:List Int),zG k (t.deeper (envOfC "law" (zd st) s.heap.objs.size f cdv))->zs.length<=64->
   wM (xr CX0 P w K mg base ("_law_script"::g) "law" (zd st) f cdv t outer s H E).nox (.one j) body rest {nx:=λ_=>False,rt:=λa=>a=.dat (.bool true)} (zs.map .int) (List.replicate (g.length+1) none)):
  yv P w K mg base CX0 (k+1) f fd ["_law_script"] (nO K):=by
 refine G.ok S (λvs H Q E h=>?_) (λcdv t outer s H vs Qc E hr h=>?_)
 ·obtain⟨a,ns,rfl,_⟩:=h;rfl
 ·obtain⟨a,ns,rfl,O,hn,C,Z⟩:=h;rw[hb];have D:M (fr0 H) (List.replicate (g.length+1) none) (L2.start ("_law_script"::g) [.ref a]) H:=M.zero C (by unfold L2.start;simp);have q:∀{l3:Addr},¬tH l3->¬Ow (fr0 H) (List.replicate (g.length+1) none) (L2.start ("_law_script"::g) [.ref a]) l3:=λ{l3} hn=>by
   rintro(z|⟨i,ds,s,e1,e2,_⟩)
   ·exact hn z
   ·rw[z61]at e1;split at e1<;>cases e1
  refine zD3 (E:={nx:=λ_=>False,rt:=λa=>a=.dat (.bool true)}) (pat:=.one j) ye1 rfl (ya (i:=j) S.nd X o) D ⟨λ_ _ _ _ z=>z.elim,λz v H' r e=>?_,λ_ _ _ _ z=>z.elim,λ_ _ _ _ z=>z.elim⟩ (λR Y=>?_) (λ_=>rfl)
  ·cases e;obtain⟨_,_,r⟩:=r;rw[AV.bl_inv r];exact Z H'
  ·refine⟨_,ip (xk ze9 (bW (zy ye zW)) (lh jB (yB (i:=0) rfl hv) iM (jH ye))),?_⟩;obtain⟨ms,em,lm⟩:=dH ns none (some u);refine⟨(by show 1<=sizeLine;decide),λl1 p=>⟨_,rfl,u,rfl,a,ns.map V.int,rfl,SqL.same O (zH p),λl2 c=>?_⟩⟩;rw[em]at *;have m:l1≠l2:=λz=>by rw[<-z,zh]at c;cases c
   have F:H l2=none:=by rw[zc m.symm]at c;exact c
   refine⟨l1,l2,[.int 0],ms.map V.int,rfl,rfl,by rw[zc m];exact zh,zh,by rw[zX8];exact z30 (yb (by simp;lia)),λl3 b=>?_⟩;have U:([V.int 0]++ms.map V.int)=((0::ms).map V.int):=rfl;rw[U];have s3:zu H (upd (upd (upd H l1 (.lst [.int 0])) l2 (.lst (ms.map V.int))) l3 (.lst ((0::ms).map V.int))):=((zH p).trans (zH c)).trans (zH b);have l:H l3=none:=by
    have A:l3≠l2:=λz=>by rw[z,zh]at b;cases b
    have B:l3≠l1:=λz=>by rw[z,zc m,zh]at b;cases b
    rw[zc A,zc B]at b;exact b
   refine⟨l3,rfl,⟨_,SqL.of zh⟩,Y ((0::ms).map .int) _ _ (n cdv t outer s H E (0::ms) hr (by simp;exact zY8 lm hn)) (D.tp.same s3) (Kz.of_same s3) λi H2 p' J=>⟨λd hd=>?_,λI=>?_⟩⟩
   ·have ha:=SqL.of (K:=K) (zb (J l3 _ (zt (q (uE C l)) zh))).2;obtain⟨v,o,av⟩:=(uk (G:=H) (0::ms)).get hd;refine⟨⟨_,v,ha,o⟩,λx' H3 y=>?_⟩;obtain⟨e,y⟩:=y;subst e;have:=y _ ha;rw[o]at this;cases this;rw[zY7,zZ3]at hd o;obtain⟨z1,q1,rfl⟩:=hd;obtain⟨z2,L,rfl⟩:=o;rw[q1]at L;cases L;exact⟨zu.refl _,λ_=>.int _⟩
   ·exact⟨_,SqL.of (zb (J l3 _ (zt (q (uE C l)) zh))).2,by rw[zX8]at I ⊢;exact I⟩
end
section
variable {X:Cx}{α:Ev}{p pos ap:Pos}{a b c:Expr}{Q:PyData->Prop}
end
section
variable {X:Cx}{α:Ev}{E:yi}{rest:List Stmt}{tg iter:Expr}{pos:Pos}
theorem zH5 (k i:Nat)(N:List Str)(imp:List (Option Nat))(pat:Pat){c:List PyData}{x:Str}{pos' d:Pos}{scope:Scope}{elt:Expr}{ifs:List Expr}(hk:α[k]?=some (some (.own c)))
  (h:EvI X (α.set k (some (.dat (.list c)))) tg iter λds=>ds.length<=1000/\yZ (λC s2 b fp=>X.comp N scope C s2 b fp) pat ifs elt (yD imp (α.set k (some (.dat (.list c))))) ds [] λds=>wm ds=true/\SvS X (α.set i (some (.own ds))) rest E)
  (T:X.N.Nodup:=by assumption)
  (nd:N.Nodup:=by decide +kernel) (u:scope.kind=.function:=by rfl) (R:∀y∈scope.names,y.2≠.cell:=by decide +kernel) (J:∀y∈scope.names,y.2=.local->scope.names.lookup y.1=some .local:=by decide +kernel) (P:scope.names.all (freeOk X.env.scope)=true:=by rfl) (S:imp.length=N.length:=by rfl)
  (A:((imp.zip N).all λp=>match p.1 with|none=>true|some j=>X.N[j]? == some p.2&&scope.names.lookup p.2 == some .free)=true:=by rfl) (e:pat.free (yD imp (α.set k (some (.dat (.list c)))))=true:=by rfl)
  (hg:∀C s2 b fp,N.Nodup->PG (X.comp N scope C s2 b fp) tg (qt X.K pat):=by intro _ _ _ _ f;first|exact ya f rfl (Or.inl rfl)|exact vj rfl rfl (by repeat (first|exact uF|refine wC (ya f rfl (Or.inl rfl)) ?_)))
  (o:X.calm=true:=by rfl)
  (hi:X.N[i]?=some x:=by rfl) (B:Loc X.env.scope x:=by first|exact Or.inl rfl|exact Or.inr rfl) (g:swapsWith (.ListComp elt [⟨tg,iter,ifs,0⟩] scope d) (some (.Name x pos')) pos.line X.env=pure true:=by rfl)
  (hf:X.fn x=true\/X.env.scope.names.lookup x=some .local:=by first|exact .inl rfl|exact .inr rfl|assumption) (G:∀x,foldedSetIterable iter X.env x=pure x:=by intro _;rfl):
  SvS X α (.Assign [.Name x pos'] (.ListComp elt [⟨tg,iter,ifs,0⟩] scope d) pos::rest) E:=λF σ H D m r=>by
 obtain⟨Y,rfl,h⟩:=oO e h F σ H (λv H'=>oX X rest D (σ.set i (some v)) H') (m.frz hk) λds v H' q t kz fl=>q.2 F _ H' D (m.setOwn t kz (by
  obtain⟨l,xs,g1,g2,g3,M⟩:=fl;refine⟨l,xs,g1,g2,g3,M.noL (λa ys hno z=>?_) q.1⟩;obtain⟨n,O⟩:=zb z;obtain⟨w,L⟩:=zb (jq m kz hk a ys hno (zt n.1 O));exact zt ⟨w,n.2⟩ L)) r
 exact⟨_,zv (mZ o ⟨u,nd,R,J,rQ P,S,A⟩ uw (λC s2 b fp=>hg C s2 b fp nd) (λC s2 b fp pins s σ H Q I h=>pE pins s σ H Q I (h C s2 b fp)) (λC s2 b fp pins s σ H Q I h=>zf pins s σ H Q I (h C s2 b fp)) T hi B g hf G) zB,h⟩
end
theorem zI.o {N P:List Str}{sc:Scope}(d:sc.kind=.function:=by rfl)(e:sc.isCoroutine=false:=by rfl)(c:sc.isGenerator=false:=by rfl)(f:N.Nodup:=by decide +kernel)(g:N.take P.length=P:=by rfl)(a:∀x∈P,sc.names.lookup x=some .local\/sc.names.lookup x=some .cell:=by decide +kernel)(b:∀y∈sc.names,y.2≠.free:=by decide +kernel):zI N P sc:=⟨d,e,c,f,g,a,b⟩
abbrev Ph :=List A->(A->Prop)->Prop
section
variable {P:Program}{w:World}{K:PySem.W.Frag}{mg:Str->Option Value}{base:Heap}
def FnD (K:PySem.W.Frag)(mg:Str->Option Value)(x:Str)(st:Stmt)(ps:List Str):Prop:=∃f fd,Fun K x x st f fd/\mg x=some (.ref f)/\Binds K fd ps []
theorem zV {x:Str}{st:Stmt}{ps:List Str}{k:Nat}{φ:List A->(A->Prop)->Prop}(N:List Str)(G:FnD K mg x st ps)
  (a:∀(f:Addr) (cdv:Value) (b:Around) (outer:List Env) (s:Shared) (H:Hp) (E:XK) (as:List A) (Q:A->Prop),N.Nodup->zG k (b.deeper (envOfC x (zd st) s.heap.objs.size f cdv))->φ as Q->
   SvS (xr CX0 P w K mg base N x (zd st) f cdv b outer s H E).nox (as.map some++List.replicate (N.length-as.length) none) (zr st) {nx:=λ_=>Q (.dat .none),rt:=Q})
  (S:zI N ps (zd st):=by exact .o) (hlen:∀as Q,φ as Q->as.length=ps.length:=by intro _ _ h;repeat first|(obtain⟨rfl,_⟩:=h;rfl)|obtain⟨_,h⟩:=h):Cal P w K mg base x (k+1) φ:=by
 obtain⟨f,fd,F,hm,hb⟩:=G;exact zV1 F hm hb S hlen λcdv b outer s H E as Q hr h=>a f cdv b outer s H E as Q S.nd hr h
theorem oY {C f:Addr}{fd:FuncData}{m d:Str}{st:Stmt}{ps:List Str}{k:Nat}{φ:List A->(A->Prop)->Prop}(N:List Str)(c:Cls K C)(e:Meth K C m f)(F:Fun K m d st f fd)(hb:Binds K fd ps [])
  (a:∀(cdv:Value) (b:Around) (outer:List Env) (s:Shared) (H:Hp) (E:XK) (as:List A) (Q:A->Prop),N.Nodup->zG k (b.deeper (envOfC d (zd st) s.heap.objs.size f cdv))->φ as Q->
   SvS (xr CX0 P w K mg base N d (zd st) f cdv b outer s H E).nox (as.map some++List.replicate (N.length-as.length) none) (zr st) {nx:=λ_=>Q (.dat .none),rt:=Q})
  (S:zI N ps (zd st):=by exact .o) (hlen:∀as Q,φ as Q->as.length=ps.length:=by intro _ _ h;repeat first|(obtain⟨rfl,_⟩:=h;rfl)|obtain⟨_,h⟩:=h):xJ P w K mg base C m (k+1) φ:=
 ⟨f,fd,ps,c,e,hb,fnA F S hlen λcdv b outer s H E as Q hr h=>a cdv b outer s H E as Q S.nd hr h⟩
end
end L2
set_option maxHeartbeats 4000000
namespace K64
open PySem PySem.Spec PyProof.Rows L2
def top (i:Nat):Stmt:=PySem.Challenge.pw_stayprice_k64_whole_off_and_why.main.body.getD i (.Pass ⟨0,0,0,0⟩)
abbrev ar :Stmt:=top 64
abbrev cS :Stmt:=top 63
def iB :Ph:=λas Q=>∃c:Int,as=[.dat (.int c)]/\∀x y:Int,0<=y->y<4294967296->Q (.own [.int x,.int y])
section
variable {P:Program}{w:World}{K:PySem.W.Frag}{mg:Str->Option Value}{base:Heap}
theorem kD :zI ["_law_row","_law_base","_law_found","_law_number"] ["_law_row","_law_base"] (zd ar):=.o
theorem zj8 {f:Addr}{fd:FuncData}(F:Fun K "_law_take" "_law_take" ar f fd):yv P w K mg base CX0 1 f fd ["_law_row","_law_base"] cK:=by
 refine F.ok kD (λvs H Q E h=>?_) (λcdv A outer s H vs Q E hr h=>?_)
 ·obtain⟨t,b,c,many,rfl,_⟩:=h;rfl
 ·obtain⟨t,b,c,many,rfl,⟨n,bs,cs,⟨C,q⟩,g,hb,D,⟨x,y,rfl,B,r⟩,hn⟩,d,m,k⟩:=h;rw[C,q]at k;have l:many.natAbs.log2<9000:=log2_small d m;have g:H t=some (.lst [.int x,.int y]):=g;refine sf (λσ H3=>σ=[some (.ref t),some (.int many),none,none]/\H=H3)
   ⟨_,zw2 (jx zu2 (vR xq (pv 0) ye (λ_ _=>rfl)) ye (yR _))
    (zv (uU (i:=2) kD.nd rfl (Or.inl rfl) (xk rK (vR xq (pv 0) ye (λ_ _=>rfl)) (pv 1)))
    (zv (jc (xk sx (vR xq (pv 0) ye (λ_ _=>rfl)) (pv 1)) (jw (pv 0) ye set_list))
    (tZ (uZ (pv 2))))) ik,?_⟩ ?_
  ·refine⟨_,rfl,t,_,0,_,rfl,rfl,SqL.of g,rfl,_,_,rfl,rfl,_,rfl,?_⟩;refine zW7 (λ_=>?_) (λ_=>⟨rfl,rfl⟩);refine⟨_,rfl,t,_,0,_,rfl,rfl,SqL.of g,rfl,_,rfl,_,_,rfl,rfl,d,?_⟩;refine⟨_,rfl,t,_,0,_,rfl,rfl,SqL.of g,rfl,_,rfl,_,_,rfl,rfl,⟨d,l⟩,?_⟩;refine⟨_,rfl,t,_,0,0,rfl,rfl,g,rfl,_,rfl,?_⟩;refine k _ _ (yh5 _ (Int.ne_of_gt d)) (ye8 _ d) ⟨0,[x / many,y],[x / many,y],⟨rfl,rfl⟩,zh,zh,zh,⟨_,_,rfl,B,r⟩,rfl⟩ λa o I=>by rw[zc o]
  rintro σ H3 ⟨rfl,rfl⟩;refine sf (λσ H1=>∃z:Int,0<=z/\z<2147483647/\σ=[some (.ref t),some (.int many),none,none]/\H1=upd H t (.lst [.int x,.int z]))
   ⟨_,jc (xk rK (xk pX (xk om (vR xq (pv 0) ye (λ_ _=>rfl)) ye) ye) ye) (jw (pv 0) ye set_list),?_⟩ ?_
  ·refine⟨_,rfl,t,_,1,_,rfl,rfl,SqL.of g,rfl,_,_,rfl,rfl,.inl ⟨by omega,by omega⟩,_,_,rfl,rfl,_,_,rfl,rfl,(by show(0:Int)<2147483647;decide),?_⟩;exact⟨_,rfl,t,_,1,1,rfl,rfl,g,rfl,_,yh5 _ (by decide),ye8 _ (by decide),rfl,rfl⟩
  rintro σ H1 ⟨z,v,G,rfl,j⟩;have e:H1 t=some (.lst [.int x,.int z]):=by rw[j];exact zh
  have off:zD5 t t H H1:=λa o _=>by rw[j,zc o]
  clear j;refine sf (λσ p=>∃u:Int,σ=[some (.ref t),some (.int many),none,some (.int u)]/\H1=p)
   ⟨_,uU (i:=3) kD.nd rfl (Or.inl rfl) (xk rK (xk pX (xk pX (xk om (vR xq (pv 0) ye (λ_ _=>rfl)) (vR xq (pv 0) ye (λ_ _=>rfl))) (xk om ye (vR xq (pv 0) ye (λ_ _=>rfl)))) ye) ye),?_⟩ ?_
  ·exact⟨_,rfl,t,_,1,_,rfl,rfl,SqL.of e,rfl,_,rfl,t,_,1,_,rfl,rfl,SqL.of e,rfl,_,_,rfl,rfl,.inl ⟨by omega,by omega⟩,_,rfl,t,_,1,_,rfl,rfl,SqL.of e,rfl,_,_,rfl,rfl,.inl ⟨by decide,by decide⟩,_,_,rfl,rfl,_,_,rfl,rfl,_,_,rfl,rfl,(by show(0:Int)<2147483629;decide),_,rfl,rfl⟩
  rintro σ p ⟨u,rfl,rfl⟩;refine⟨_,tZ (uZ (xk rK (xk sx (pv 3) ye) (pv 1))),?_⟩;refine⟨_,rfl,_,_,rfl,rfl,⟨by decide,by decide +kernel⟩,_,rfl,_,_,rfl,rfl,d,?_⟩;exact k _ _ (yh5 _ (Int.ne_of_gt d)) (ye8 _ d) ⟨0,[x,z],[x,z],⟨rfl,rfl⟩,e,e,e,⟨_,_,rfl,v,by omega⟩,rfl⟩ off
theorem zc3 {f:Addr}{fd:FuncData}(hm:mg "_law_take"=some (.ref f))(hk:PySem.W.keepIn K (.ref f)=true)(hb:Binds K fd ["_law_row","_law_base"] [])(G:yv P w K mg base CX0 1 f fd ["_law_row","_law_base"] cK):Cal P w K mg base "_law_take" 1 xV:=by
 refine⟨f,fd,_,hm,hk,hb,G.imp λvs H Q E h=>?_⟩;obtain⟨F,as,q,rfl,t,o,i,⟨n,rfl,h0,g,hq⟩,j⟩:=h;cases i with
 |cons a1 r=>
  obtain⟨a,b,c,e,rfl⟩:=a1;obtain⟨v,rfl,av⟩:=r.one;cases av.int_inv;refine⟨a,b,c,n,rfl,(t a b c e).1,h0,g,λz H' l m TA off=>j _ _ _ (hq z l m) ⟨⟨(by
   obtain⟨_,_,_,_,e1,k,_⟩:=(t a b c e).1.ex;exact zl1 t.tab e1 k off),t.ot,λt' p c' d=>?_⟩,λy u hy n=>?_,.int z⟩⟩
  ·rw[e]at d;cases d;exact⟨TA,(t a b c e).2⟩
  ·rw[off y (n.1 _ _ _ e).1 (n.1 _ _ _ e).2];exact hy
theorem iX (F:FnD K mg "_law_begin" cS ["_law_cell"]):Cal P w K mg base "_law_begin" 1 iB:=by
 refine zV ["_law_cell"] F λ_ _ _ _ _ _ _ _ Q nd hr h=>?_;obtain⟨c,rfl,q⟩:=h;refine wN (zx1 (zg 0 rfl (vg (r:=1000000000000000000) ⟨by decide,by decide,by decide⟩ (by decide) ⟨_,_,rfl,rfl,?_⟩)));refine cR (λ_=>?_) (λ_=>zx ?_)
 ·exact xp (vV (zi (kQ (zg 0 rfl (vg (r:=1000000000000000000) ⟨by decide,by decide,by decide⟩ (by decide) ⟨_,_,rfl,rfl,zi (yc (zq ⟨_,rfl,z35 rfl,q _ _ (by decide) (by decide)⟩))⟩)))))
 ·refine xp (vV (zi (yc (zi (sJ (zd5 (zg 0 rfl (yc ⟨_,_,rfl,rfl,by decide,yc ⟨_,_,rfl,rfl,zq ⟨_,rfl,z35 rfl,?_⟩⟩⟩))))))));have a:=yh5 c (show(2147483629:Int)≠0 by decide);have b:=ye8 c (show(0:Int)<2147483629 by decide);exact q _ _ (by omega) (by omega)
end
end K64
set_option compiler.extract_closed false
set_option hygiene false in
local macro_rules
 |`(tactic| exists $f,$a)=>`(tactic| first|refine $f 0 $a ?_|refine $f 1 $a ?_|refine $f 2 $a ?_|refine $f 3 $a ?_|refine $f 4 $a ?_|refine $f 5 $a ?_|refine $f 6 $a ?_|refine $f 7 $a ?_|refine $f 8 $a ?_|refine $f 9 $a ?_|refine $f 10 $a ?_|refine $f 11 $a ?_|refine $f 12 $a ?_|refine $f 13 $a ?_|refine $f 14 $a ?_|refine $f 15 $a ?_|refine $f 16 $a ?_|refine $f 17 $a ?_)
 |`(tactic| exists $f)=>`(tactic| with_reducible refine $f ?_)
 |`(tactic| specialize $p)=>`(tactic| with_reducible show $p)
set_option hygiene false in
local macro_rules
 |`(tactic| and_intros)=>`(tactic| repeat (first
  |((specialize EvD _ _ _ _);first
   |((specialize EvD _ _ (.Name _ _) _);exists zg,rfl)
   |((specialize EvD _ _ (.Constant _ _ _) _);first|exists yc|exists wZ|exists za6|exists pS)
   |((specialize EvD _ _ (.BinOp (.Constant (.int 10) _ _) .Pow (.Constant (.int 6) _ _) _) _);refine vg (r:=1000000) ⟨by decide,by decide,by decide⟩ (by decide) ?_)
   |((specialize EvD _ _ (.BinOp (.Constant (.int 10) _ _) .Pow (.Constant (.int 12) _ _) _) _);refine vg (r:=1000000000000) ⟨by decide,by decide,by decide⟩ (by decide) ?_)
   |((specialize EvD _ _ (.BinOp (.Constant (.int 10) _ _) .Pow (.Constant (.int 9) _ _) _) _);refine vg (r:=1000000000) ⟨by decide,by decide,by decide⟩ (by decide) ?_)
   |((specialize EvD _ _ (.BinOp (.Constant (.int 10) _ _) .Pow (.Constant (.int 11) _ _) _) _);refine vg (r:=100000000000) ⟨by decide,by decide,by decide⟩ (by decide) ?_)
   |((specialize EvD _ _ (.BinOp _ .Add (.List _ _) _) _);refine EvL.d (uf ?_))
   |((specialize EvD _ _ (.BinOp (.List _ _) .Add _ _) _);refine EvL.d (uf ?_))
   |((specialize EvD _ _ (.BinOp (.Subscript _ (.Slice _ _ none _) _) .Add _ _) _);refine EvL.d (uf ?_))
   |((specialize EvD _ _ (.BinOp _ .Add (.Subscript _ (.Slice _ _ none _) _) _) _);refine EvL.d (uf ?_))
   |((specialize EvD _ _ (.BinOp (.Call (.Attribute _ "rules" _) _ _ _) .Add _ _) _);refine EvL.d (uf ?_))
   |exists sJ
   |exists kQ
   |exists zd5
   |exists zf8
   |exists zA3
   |exists ev_shl
   |exists zA7
   |exists zd9
   |exists ji
   |((specialize EvD _ _ (.Subscript _ (.Slice _ _ none _) _) _);refine EvL.d (md ?_))
   |((specialize EvD _ _ (.Subscript _ _ _) _);refine zz8 hr.one (fun _ _=>rfl) ?_)
   |((specialize EvD _ _ (.List _ _) _);refine EvL.d (vV ?_))
   |((specialize EvD _ _ (.Call (.Name "len" _) [.Call (.Name "set" _) _ _ _] _ _) _);refine ev_lenSet rfl (by rfl) nb.len (by rfl) (by assumption) ?_)
   |((specialize EvD _ _ (.Call (.Name "len" _) _ _ _) _);refine aB (by rfl) nb.len ?_)
   |((specialize EvD _ _ (.Call (.Name "min" _) [_,_] _ _) _);refine bT rfl (by rfl) nb.min ?_)
   |((specialize EvD _ _ (.Call (.Name "max" _) [_,_] _ _) _);refine zC7 rfl (by rfl) nb.max ?_)
   |((specialize EvD _ _ (.Call (.Name "list" _) _ _ _) _);refine EvL.d (oJ (by rfl) nb.list ?_))
   |((specialize EvD _ _ (.Call (.Name "repr" _) _ _ _) _);refine ev_repr hr.gd hr.units (by rfl) nb.repr ?_)
   |((specialize EvD _ _ (.Call (.Name "min" _) [_] _ _) _);refine ev_minI rfl hr.few (by rfl) nb.min ?_)
   |((specialize EvD _ _ (.Call (.Name "isinstance" _) _ _ _) _);first|refine sr (by rfl) nb.isinstance (by rfl) nb.int boot_int ?_|refine sr (by rfl) nb.isinstance (by rfl) nb.bool boot_bool ?_|refine sr (by rfl) nb.isinstance (by rfl) nb.str boot_str ?_|refine sr (by rfl) nb.isinstance (by rfl) nb.list boot_list ?_|refine sr (by rfl) nb.isinstance (by rfl) nb.tuple boot_tuple ?_)
   |((specialize EvD _ _ (.Call (.Name "int" _) _ _ _) _);refine ev_intB (by rfl) nb.int ?_)
   |((specialize EvD _ _ (.Call (.Name _ _) _ _ _) _);first|refine zh1 (by with_reducible assumption) (by exact⟨rfl,rfl,rfl,rfl,rfl⟩) (hr.mono (by decide)) (by rfl) ?_|refine EvN.d (aK (by with_reducible assumption) (by exact⟨rfl,rfl,rfl,rfl,rfl⟩) (hr.mono (by decide)) (by rfl) ?_))
   |((specialize EvD _ _ (.Call (.Attribute _ _ _) (_::_) _ _) _);refine dE (by with_reducible assumption) (by exact⟨rfl,rfl,rfl,rfl,rfl⟩) (hr.mono (by decide)) ?_)
   |((specialize EvD _ _ (.Call (.Attribute _ _ _) [] _ _) _);refine gu (by with_reducible assumption) (by exact⟨rfl,rfl,rfl,rfl,rfl⟩) (hr.mono (by decide)) ?_)
   |((specialize EvD _ _ (.Compare _ [_] _ _) _);first|exists zL3|exists zS4|exists ev_gt|exists ev_ge|exists zB1|exists ev_notN|((specialize EvD _ _ (.Compare _ [.Eq] _ _) _);refine zB5 hr.units ?_)|((specialize EvD _ _ (.Compare _ [.NotEq] _ _) _);refine ev_nek hr.units ?_)|((specialize EvD _ _ (.Compare _ [.In] _ _) _);refine zE5 hr.one ?_)|((specialize EvD _ _ (.Compare _ [.NotIn] _ _) _);refine zj3 hr.one ?_)|((specialize EvD _ _ (.Compare _ [.Is] [.Constant (.bool _) _ _] _) _);refine ev_isB ?_))
   |((specialize EvD _ _ (.Compare _ [_,_] _ _) _);first|refine ev_lelt ?_|refine ev_ltle ?_|refine bQ ?_)
   |((specialize EvD _ _ (.BoolOp _ _ _) _);first|exists zI0|exists zL8|exists zF7)
   |exists ki)
  |((specialize EvA _ _ _ _);first
   |exists zq
   |((specialize EvA _ _ (.Name "_law_row" _::_) _);exists yK,rfl)
   |refine zi ?_)
  |((specialize EvT _ _ _ _);first
   |((specialize EvT _ _ (.Compare _ [_] _ _) _);first|exists zR7|exists et_le|exists jX|exists zx1|exists oG|exists zi9|((specialize EvT _ _ (.Compare _ [.Eq] _ _) _);refine zI6 hr.units ?_)|((specialize EvT _ _ (.Compare _ [.NotEq] _ _) _);refine zC0 hr.units ?_)|((specialize EvT _ _ (.Compare _ [.In] _ _) _);refine zG2 hr.one ?_)|((specialize EvT _ _ (.Compare _ [.NotIn] _ _) _);refine zg2 hr.one ?_)|((specialize EvT _ _ (.Compare _ [.Is] [.Constant (.bool _) _ _] _) _);refine et_isB ?_)|((specialize EvT _ _ (.Compare _ [.IsNot] [.Constant (.bool _) _ _] _) _);refine et_isntB ?_))
   |((specialize EvT _ _ (.Compare _ [_,_] _ _) _);first|refine et_lelt ?_|refine et_ltle ?_|refine et_lele' ?_)
   |exists aT
   |((specialize EvT _ _ (.BoolOp _ _ _) _);exists EvW.t)
   |refine mD ?_)
  |((specialize EvL _ _ _ _);first
   |exists vV
   |((specialize EvL _ _ (.Call (.Name "list" _) _ _ _) _);refine oJ (by rfl) nb.list ?_)
   |((specialize EvL _ _ (.Call (.Name _ _) _ _ _) _);refine zj2 (by with_reducible assumption) (by exact⟨rfl,rfl,rfl,rfl,rfl⟩) (hr.mono (by decide)) (by rfl) ?_)
   |((specialize EvL _ _ (.Call (.Attribute _ _ _) [] _ _) _);refine el_meth0R (by with_reducible assumption) (by exact⟨rfl,rfl,rfl,rfl,rfl⟩) (hr.mono (by decide)) ?_)
   |((specialize EvL _ _ (.Subscript _ (.Slice _ _ none _) _) _);refine md ?_)
   |((specialize EvL _ _ (.BinOp _ .Add _ _) _);refine uf ?_))
  |((specialize EvW _ _ _ _);first
   |exists eZ
   |exists zx5
   |exists iL
   |exists zA6)
  |((specialize EvO _ _ _ _);first
   |exists zf5
   |exists zm6)
  |((specialize jj _ _ _);first
   |refine ixk rfl rfl rfl ?_
   |refine zN1 ?_
   |refine ixk_1 ?_)
  |((specialize qr _ _ _ _);first
   |refine ink rfl rfl ?_
   |refine eV ?_
   |refine zU7 rfl rfl ?_)
  |((specialize lr _ _ _);first
   |exists zn9
   |exists zk7
   |exists dR
   |refine eqk rfl rfl rfl rfl ?_)
  |((specialize SvS _ _ _ _);first
   |((specialize SvS _ (List.set _ _ _) _ _);dsimp only[List.set])
   |((specialize SvS _ _ (zr _) _);show SvS _ _ (_::_) _)
   |((specialize SvS _ _ (.Assign [.Name _ _] (.List [] _) _::_) _);exists yH,nd)
   |((specialize SvS _ _ (.Assign [.Name _ _] _ _::_) _);exists zX,nd)
   |((specialize SvS _ _ (.Expr (.Call (.Attribute _ "append" _) _ _ _) _::_) _);exists vG,rfl)
   |((specialize SvS _ _ (.Return (some (.Name _ _)) _::_) _);exists wJ,rfl)
   |exists xS
   |exists sv_cont
   |exists sv_pass
   |exists wN
   |exists zx
   |((with_reducible refine sg ?hk ?_);case hk=>first|rfl|decide +kernel)
   |((with_reducible refine tS ?hk ?_);case hk=>first|rfl|decide +kernel))
  |((specialize xV _ _);refine⟨_,rfl,by first|decide|omega,by first|decide|(show _<big;unfold big;omega),fun _ _ _=>?_⟩)
  |((with_reducible refine zc7 ?hk ?_);case hk=>first|rfl|decide +kernel)
  |((with_reducible refine zR0 ?hk ?_);case hk=>first|rfl|decide +kernel)
  |refine⟨_,_,rfl,rfl,?_⟩
  |refine⟨_,_,_,rfl,rfl,rfl,?_⟩
  |refine⟨_,rfl,z35 rfl,?_⟩
  |refine⟨_,rfl,rfl,?_⟩
  |refine⟨_,rfl,?_⟩))
namespace K64
open PySem PySem.Spec PyProof.Rows L2
abbrev aI :Stmt:=top 3
abbrev jY :Stmt:=top 4
abbrev zu1 :Stmt:=top 5
abbrev zT0 :Stmt:=top 6
abbrev zt7 :Stmt:=top 7
abbrev mJ :Stmt:=top 8
abbrev zy7 :Stmt:=inClass (top 27) 0
abbrev zs4 :Stmt:=inClass (top 27) 2
abbrev br :Stmt:=inClass (top 27) 3
abbrev zk1 :Stmt:=inClass (top 28) 0
abbrev zA2 :Stmt:=inClass (top 29) 0
abbrev zX0 :Stmt:=inClass (top 30) 0
abbrev zm9 :Stmt:=inClass (top 31) 0
abbrev zE0 :Stmt:=inClass (top 32) 0
abbrev zE6 :Stmt:=inClass (top 33) 0
abbrev zT5 :Stmt:=inClass (top 34) 0
abbrev bL :Stmt:=top 36
abbrev jO :Stmt:=top 37
abbrev bh :Stmt:=top 38
abbrev iz :Stmt:=top 39
abbrev zv8 :Stmt:=top 40
abbrev jS :Stmt:=top 41
theorem tE (d:PyData):zQ (.str "price") d=(isNone d||sO d):=rfl
theorem lM (d:PyData):zQ (.str "come") d=isBool d:=rfl
theorem dh (d:PyData):zQ (.str "go") d=isBool d:=rfl
theorem mT (d:PyData):zQ (.str "least") d=yI 1 14 d:=rfl
theorem km (d:PyData):zQ (.str "most") d=yI 1 14 d:=rfl
theorem kl (d:PyData):zQ (.str "deal") d=(isNone d||rS d):=rfl
theorem fM (d:PyData):zQ (.str "fee") d=sO d:=rfl
theorem zE {lo hi:Int}{d:PyData}(h:yI lo hi d=true):∃i,d=.int i/\lo<=i/\i<=hi:=by
 cases d with
 |int i=>exact⟨i,rfl,z66 (z90.mp h).1,z66 (z90.mp h).2⟩
 |_=>cases h
theorem bool_inv {d:PyData}(h:isBool d=true):∃b,d=.bool b:=by
 cases d with
 |bool b=>exact⟨b,rfl⟩
 |_=>cases h
theorem uX {d:PyData}(h:rS d=true):∃m f:Int,d=.tuple [.int m,.int f]/\2<=m/\m<=14/\1<=f/\f<=m-1:=by
 unfold rS at h;split at h
 ·obtain⟨c,g⟩:=z90.mp h;obtain⟨_,rfl,b,i⟩:=zE g;obtain⟨_,e,j,a⟩:=zE c;cases e;exact⟨_,_,rfl,j,a,b,i⟩
 ·cases h
theorem none_or {d:PyData}{p:Bool}(h:(isNone d||p)=true):d=.none\/p=true:=by
 cases d with
 |none=>exact .inl rfl
 |_=>exact .inr h
theorem xA {d:PyData}(h:xC d=true):∃(s:Str) (i j:Int) (v:PyData),s∈words/\d=.tuple [.str s,.int i,.int j,v]/\0<=i/\i<=j/\j<=1000000/\zQ (.str s) v=true:=by
 obtain⟨s,a,b,v,l,rfl⟩:=tu h;obtain⟨c,p⟩:=z90.mp (show(vh (.tuple [a,b])&&zQ (.str s) v)=true from h);unfold vh zC8 at c;split at c
 ·rename_i k e;split at e
  ·rename_i z;cases z;split at e
   ·rename_i q;cases e;obtain⟨f,o⟩:=z90.mp q;obtain⟨_,e1,g,a1⟩:=zE f;obtain⟨_,m,b0,n⟩:=zE o;cases e1;cases m;have:=z66 c;exact⟨s,_,_,v,l,rfl,g,by omega,n,p⟩
   ·cases e
  ·cases e
 ·cases c
theorem uc {s:Str}{v:PyData}(a:s∈words)(h:zQ (.str s) v=true):v.hasDict=false/\noL v=true:=by
 have w:∀{lo hi:Int},yI lo hi v=true->v.hasDict=false/\noL v=true:=λz=>by obtain⟨_,rfl,_⟩:=zE z;exact⟨rfl,rfl⟩
 have b:isBool v=true->v.hasDict=false/\noL v=true:=λz=>by obtain⟨_,rfl⟩:=bool_inv z;exact⟨rfl,rfl⟩
 simp only[words,zY2,zZ8,z33]at a;rcases a with rfl|rfl|rfl|rfl|rfl|rfl|rfl
 ·rcases none_or h with rfl|h
  ·exact⟨rfl,rfl⟩
  ·exact w h
 ·exact b h
 ·exact b h
 ·exact w h
 ·exact w h
 ·rcases none_or h with rfl|h
  ·exact⟨rfl,rfl⟩
  ·obtain⟨_,_,rfl,_⟩:=uX h;exact⟨rfl,rfl⟩
 ·exact w h
def zu5 :Ph:=λas Q=>∃i:Int,as=[.dat (.int i)]/\Q (.dat (.bool true))
def aG :Ph:=λas Q=>∃i lo hi:Int,as=[.dat (.int i),.dat (.int lo),.dat (.int hi)]/\lo<=i/\i<=hi/\Q (.dat (.bool true))
def zJ2 :Ph:=λas Q=>∃i j:Int,as=[.dat (.tuple [.int i,.int j])]/\Q (.dat (.bool true))
def zP5 :Ph:=λas Q=>∃i:Int,as=[.dat (.int i)]/\0<=i/\i<=1000000/\Q (.dat (.bool true))
def zk4 :Ph:=λas Q=>∃i j:Int,as=[.dat (.tuple [.int i,.int j])]/\0<=i/\i<=j/\j<=1000000/\Q (.dat (.bool true))
def zR5 :Ph:=λas Q=>∃d,as=[.dat d]/\sO d=true/\Q (.dat (.bool true))
def zL2 :Ph:=λas Q=>∃d,as=[.dat d]/\rS d=true/\Q (.dat (.bool true))
def zN0 :Ph:=λas Q=>∃s d,as=[.dat (.str s),.dat d]/\s∈words/\zQ (.str s) d=true/\Q (.dat (.bool true))
def zS1 :Ph:=λas Q=>∃d,as=[.dat d]/\xC d=true/\Q (.dat (.bool true))
section
variable {P:Program}{w:World}{K:PySem.W.Frag}{mg:Str->Option Value}{base:Heap}{cs:Cs}
theorem zo4 (F:FnD K mg "is_whole" aI ["thing"])(nb:NbT mg):Cal P w K mg base "is_whole" 1 zu5:=by
 refine zV ["thing"] F λ_ _ _ _ _ _ _ _ Q nd hr h=>?_;obtain⟨i,rfl,q⟩:=h;and_intros;exact q
theorem ja (F:FnD K mg "is_whole_within" jY ["thing","lowest","highest"])(c:Cal P w K mg base "is_whole" 1 zu5):Cal P w K mg base "is_whole_within" 2 aG:=by
 refine zV ["thing","lowest","highest"] F λ_ _ _ _ _ _ _ _ Q nd hr h=>?_;obtain⟨i,lo,hi,rfl,a,b,q⟩:=h;and_intros;refine zc7 (z26 a) ?_;and_intros;rw[z26 b];exact q
theorem zd0 (F:FnD K mg "is_pair" zu1 ["thing"])(nb:NbT mg):Cal P w K mg base "is_pair" 1 zJ2:=by
 refine zV ["thing"] F λ_ _ _ _ _ _ _ _ Q nd hr h=>?_;obtain⟨i,j,rfl,q⟩:=h;and_intros;exact q
theorem fX (F:FnD K mg "is_day" zT0 ["thing"])(gl:∃t,mg "LAST_DAY"=some (.int 1000000 t))(c:Cal P w K mg base "is_whole_within" 2 aG):Cal P w K mg base "is_day" 3 zP5:=by
 refine zV ["thing"] F λ_ _ _ _ _ _ _ _ Q nd hr h=>?_;obtain⟨i,rfl,a,b,q⟩:=h;and_intros;exact wA (by rfl) gl (zq ⟨_,_,_,rfl,a,b,q⟩)
theorem df (F:FnD K mg "is_pair_of_days" zt7 ["thing"])(d:Cal P w K mg base "is_pair" 1 zJ2)(c:Cal P w K mg base "is_day" 3 zP5):Cal P w K mg base "is_pair_of_days" 4 zk4:=by
 refine zV ["thing"] F λ_ _ _ _ _ _ _ _ Q nd hr h=>?_;obtain⟨i,j,rfl,b,e,a,q⟩:=h;and_intros;refine⟨_,_,rfl,?_⟩;and_intros;refine⟨b,by omega,?_⟩;and_intros;exact⟨by omega,a,q⟩
theorem mY (F:FnD K mg "is_stretch" mJ ["thing"])(d:Cal P w K mg base "is_pair_of_days" 4 zk4):Cal P w K mg base "is_stretch" 5 zk4:=by
 refine zV ["thing"] F λ_ _ _ _ _ _ _ _ Q nd hr h=>?_;obtain⟨i,j,rfl,c,a,b,q⟩:=h;and_intros;refine⟨_,_,rfl,c,a,b,?_⟩;and_intros;rw[z26 a];exact q
theorem lu (F:FnD K mg "is_coins" bL ["thing"])(gl:∃t,mg "MOST_COINS"=some (.int 1000000000000 t))(c:Cal P w K mg base "is_whole_within" 2 aG):Cal P w K mg base "is_coins" 3 zR5:=by
 refine zV ["thing"] F λ_ _ _ _ _ _ _ _ Q nd hr h=>?_;obtain⟨d,rfl,h,q⟩:=h;obtain⟨i,rfl,a,b⟩:=zE h;and_intros;exact wA (by rfl) gl (zq ⟨_,_,_,rfl,a,b,q⟩)
theorem kH (F:FnD K mg "is_deal" jO ["thing"])(gl:∃t,mg "MOST_NIGHTS"=some (.int 14 t))(g:Cal P w K mg base "is_pair" 1 zJ2)(i:Cal P w K mg base "is_whole_within" 2 aG):Cal P w K mg base "is_deal" 3 zL2:=by
 refine zV ["thing"] F λ_ _ _ _ _ _ _ _ Q nd hr h=>?_;obtain⟨d,rfl,h,q⟩:=h;obtain⟨m,f,rfl,a,e,c,b⟩:=uX h;and_intros;refine⟨_,_,rfl,?_⟩;and_intros;refine wA (by rfl) gl (zq ⟨_,_,_,rfl,a,e,?_⟩);and_intros;exact⟨_,_,_,rfl,c,b,q⟩
theorem mI (F:FnD K mg "is_worth" bh ["word","thing"])(nb:NbT mg)(gl:∃t,mg "MOST_NIGHTS"=some (.int 14 t))(k:Cal P w K mg base "is_whole_within" 2 aG)(j:Cal P w K mg base "is_coins" 3 zR5)(g:Cal P w K mg base "is_deal" 3 zL2):Cal P w K mg base "is_worth" 4 zN0:=by
 refine zV ["word","thing"] F λ_ _ _ _ _ _ _ _ Q nd hr h=>?_;obtain⟨s,d,rfl,e,h,q⟩:=h;simp only[words,zY2,zZ8,z33]at e;rcases e with rfl|rfl|rfl|rfl|rfl|rfl|rfl
 ·rcases none_or h with rfl|h
  ·and_intros;exact q
  ·obtain⟨i,rfl,_⟩:=zE h;and_intros;exact⟨h,q⟩
 ·obtain⟨b,rfl⟩:=bool_inv h;and_intros;exact q
 ·obtain⟨b,rfl⟩:=bool_inv h;and_intros;exact q
 ·obtain⟨i,rfl,a,c⟩:=zE h;and_intros;exact wA (by rfl) gl (zq ⟨_,_,_,rfl,a,c,q⟩)
 ·obtain⟨i,rfl,a,c⟩:=zE h;and_intros;exact wA (by rfl) gl (zq ⟨_,_,_,rfl,a,c,q⟩)
 ·rcases none_or h with rfl|h
  ·and_intros;exact q
  ·obtain⟨m,f,rfl,_⟩:=uX h;and_intros;exact⟨h,q⟩
 ·and_intros;exact⟨h,q⟩
theorem lJ (F:FnD K mg "is_rule" iz ["thing"])(nb:NbT mg)(k:Cal P w K mg base "is_stretch" 5 zk4)(g:Cal P w K mg base "is_worth" 4 zN0):Cal P w K mg base "is_rule" 6 zS1:=by
 refine zV ["thing"] F λ_ _ _ _ _ _ _ _ Q nd hr h=>?_;obtain⟨d,rfl,h,q⟩:=h;obtain⟨s,i,j,v,b,rfl,c,f,e,a⟩:=xA h;have hf:=(uc b a).1;and_intros;refine⟨true,by simp[PyData.hasDict,PyData.hasDictAll,hf],rfl,?_⟩;and_intros;refine⟨_,_,rfl,c,f,e,?_⟩;and_intros;exact⟨_,_,rfl,b,a,q⟩
def tm (C:Addr)(a b v:PyData):PyData:=vb C [(.str "first",a),(.str "last",b),(.str "worth",v)]
def uu (cs:Cs):PyData->PyData
 |.tuple [.str w,a,b,v]=>tm (cs.of w) a b v
 |_=>.none
def mn (C:Addr):Ph:=λas Q=>∃a b v,as=[.dat a,.dat b,.dat v]/\noL a=true/\noL b=true/\noL v=true/\Q (.dat (tm C a b v))
def zK6 (cs:Cs):Ph:=λas Q=>∃s a b v,as=[.dat (.str s),.dat a,.dat b,.dat v]/\s∈words/\noL a=true/\noL b=true/\noL v=true/\Q (.dat (tm (cs.of s) a b v))
def me (cs:Cs):Ph:=λas Q=>∃d,as=[.dat d]/\xC d=true/\Q (.dat (uu cs d))
def kh (C:Addr)(w:Str):Ph:=λas Q=>∃a b v,as=[.dat (tm C a b v)]/\Q (.dat (.tuple [.str w,a,b,v]))
def pT (C:Addr)(w:Str):Ph:=λas Q=>∃a b v,as=[.dat (tm C a b v)]/\Q (.dat (.str w))
def rf (C:Addr):Ph:=λas Q=>∃(a b day:Int) (v:PyData),as=[.dat (tm C (.int a) (.int b) v),.dat (.int day)]/\Q (.dat (.bool (decide (a<=day)&&decide (day<=b))))
theorem bz (F:FnD K mg "made" zv8 ["word","first","last","worth"])(e:ur P w K mg base "Price" 1 [] (mn cs.price))(f:ur P w K mg base "Come" 1 [] (mn cs.come))(k:ur P w K mg base "Go" 1 [] (mn cs.go))(j:ur P w K mg base "Least" 1 [] (mn cs.least))(i:ur P w K mg base "Most" 1 [] (mn cs.most))(g:ur P w K mg base "Deal" 1 [] (mn cs.deal))(l:ur P w K mg base "Fee" 1 [] (mn cs.fee)):Cal P w K mg base "made" 3 (zK6 cs):=by
 refine zV ["word","first","last","worth"] F λ_ _ _ _ _ _ _ _ Q nd hr h=>?_;obtain⟨s,a,b,v,rfl,c,ha,hb,d,q⟩:=h;simp only[words,zY2,zZ8,z33]at c;rcases c with rfl|rfl|rfl|rfl|rfl|rfl|rfl<;>and_intros<;>exact⟨_,_,_,rfl,ha,hb,d,q⟩
theorem lE (F:FnD K mg "rule_of" jS ["thing"])(CR:Cal P w K mg base "is_rule" 6 zS1)(f:Cal P w K mg base "made" 3 (zK6 cs)):Cal P w K mg base "rule_of" 7 (me cs):=by
 refine zV ["thing"] F λ_ _ _ _ _ _ _ _ Q nd hr h=>?_;obtain⟨d,rfl,h,q⟩:=h;obtain⟨s,i,j,v,a,rfl,c,g,e,b⟩:=xA h;and_intros;refine⟨h,?_⟩;and_intros;exact⟨_,_,_,_,rfl,a,rfl,rfl,(uc a b).2,q⟩
theorem yP {x:Str}{C f fT fE fW:Addr}{fd:FuncData}(R:tO K C f fT fE fW)(hm:mg x=some (.ref C))(F:Fun K "__init__" "Rule.__init__" zy7 f fd)(hb:Binds K fd ["self","first","last","worth"] []):ur P w K mg base x 1 [] (mn C):=by
 refine⟨C,f,fd,_,[],hm,R.makes,hb,.nil,F.ok (N:=["self","first","last","worth"]) .o (λvs H Q E h=>?_) (λcdv A outer s H vs Q E hr h=>?_)⟩
 ·obtain⟨_,as,_,_,_,_,_,rfl,_,_,_,_,_,_,_,c,⟨a,b,v,rfl,_⟩,_⟩:=h;exact congrArg (·+1) c.length
 ·obtain⟨G,as,S,p,dx,vs',H1,rfl,g,I,hn,rfl,rfl,t,o,c,⟨a,b,v,rfl,n1,D,J,q⟩,L⟩:=h;cases c with
  |cons M c=>cases c with
   |cons B c=>cases c with
    |cons O c=>
     cases c;rename_i x y z;refine⟨_,zv (pD (pv 0) (pv 1) rfl) (zv (pD (pv 0) (pv 2) rfl) (tZ (pD (pv 0) (pv 3) rfl))),_,rfl,_,rfl,p,C,dx,[],rfl,zh,R.cl,R.nf,(by decide:0<1000),_,rfl,_,rfl,p,C,dx,_,rfl,zh,R.cl,R.nl,(show 1<1000 by decide),_,rfl,_,rfl,p,C,dx,xR "last" y (xR "first" x []),rfl,zh,R.cl,R.nw,(show 2<1000 by decide),?_⟩;show Q .non _;rw[sk,sk,sk];have i:zu G.H0 (upd (upd G.H0 dx (.own p)) p (.ins C dx (zK7 x y z))):=λa o e=>by rw[zc (zk e g),zc (zk e I)];exact e
     have k:∀{u:V} {d:PyData},AV (sub (λy=>¬G.O0 y) G.H0) u d->noL d=true->AV (sub (λy=>¬G.O0 y/\∀xs,G.H0 y≠some (.lst xs)) (upd (upd G.H0 dx (.own p)) p (.ins C dx (zK7 x y z)))) u d:=λh n=>h.noL (λa o r e=>by
      obtain⟨e1,j⟩:=zb e;exact zt ⟨e1,λxs m=>by rw[j]at m;cases m;exact r trivial⟩ (i _ _ j)) n
     refine L _ _ q ⟨t.same i,Kz.of_same i,.ins (zt ⟨λe=>?_,λxs e=>by rw[g]at e;cases e⟩ zh) (.cons (k M n1) (.cons (k B D) (.cons (k O J) .nil)))⟩;obtain⟨u,l,_⟩:=o p e;rw[g]at l;cases l
theorem yO {C f fI fT fE:Addr}{fd:FuncData}{c d:Str}{st:Stmt}{j:Nat}{p1 p2:Pos}(R:tO K C fI fT fE f)(F:Fun K "word" d st f fd)(hb:Binds K fd ["self"] [])(S:zI ["self"] ["self"] (zd st))(e:zr st=[.Return (some (.Constant (.str c) j p1)) p2]):xJ P w K mg base C "word" 1 (pT C c):=by
 refine oY ["self"] R.cl R.word F hb (λ_ _ _ _ _ _ _ Q nd hr h=>?_) S;obtain⟨a,b,v,rfl,q⟩:=h;rw[e];exact xS (wZ q)
theorem yS {C f fI fE fW:Addr}{fd:FuncData}{c:Str}(R:tO K C fI f fE fW)(F:Fun K "told" "Rule.told" zs4 f fd)(hb:Binds K fd ["self"] [])(W:xJ P w K mg base C "word" 1 (pT C c)):xJ P w K mg base C "told" 2 (kh C c):=by
 refine oY ["self"] R.cl R.told F hb λ_ _ _ _ _ _ _ Q nd hr h=>?_;obtain⟨a,b,v,rfl,q⟩:=h;and_intros;exact⟨_,_,_,rfl,zi (wY R.cl R.nf (zg 0 rfl ⟨_,_,rfl,rfl,zi (wY R.cl R.nl (zg 0 rfl ⟨_,_,rfl,rfl,zi (wY R.cl R.nw (zg 0 rfl ⟨_,_,rfl,rfl,zq ⟨_,rfl,z35 rfl,q⟩⟩))⟩))⟩))⟩
theorem yn {C f fI fT fW:Addr}{fd:FuncData}(R:tO K C fI fT f fW)(F:Fun K "tells" "Rule.tells" br f fd)(hb:Binds K fd ["self","day"] []):xJ P w K mg base C "tells" 1 (rf C):=by
 refine oY ["self","day"] R.cl R.tells F hb λ_ _ _ _ _ _ _ Q nd hr h=>?_;obtain⟨a,b,day,v,rfl,q⟩:=h;and_intros;refine wY R.cl R.nf (zg 0 rfl ⟨_,_,rfl,rfl,?_⟩);and_intros;refine ui (λz=>?_) (λz=>?_)
 ·rw[z,yg0]at q;exact wY R.cl R.nl (zg 0 rfl ⟨_,_,rfl,rfl,_,rfl,q⟩)
 ·rw[z,yb4]at q;exact q
end
abbrev zt4 :Stmt:=top 45
abbrev xj :Stmt:=inClass (top 44) 0
abbrev uA :Stmt:=inClass (top 44) 1
abbrev jR :Stmt:=inClass (top 44) 2
abbrev zb7 :Stmt:=top 35
def yw (C:Addr)(cs:Cs)(ds:List PyData):PyData:=vb C [(.str "kept",.list (ds.map (uu cs)))]
def Rules (ds:List PyData):Prop:=∀d∈ds,xC d=true/\SeqAt.shaped d=true/\d.hasDict=false
def bP (cs:Cs):Ph:=λas Q=>∃ds,as=[.dat (.list ds)]/\Rules ds/\ds.length<=24/\Q (.own (ds.map (uu cs)))
def qc (C:Addr)(cs:Cs):Ph:=λas Q=>∃ds,(as=[.dat (.list ds)]\/(as=[.dat .none]/\ds=[]))/\Rules ds/\ds.length<=24/\Q (.dat (yw C cs ds))
def zn7 (C:Addr)(cs:Cs):Ph:=λas Q=>∃ds,as=[.dat (yw C cs ds)]/\Rules ds/\ds.length<=1000/\Q (.own ds)
theorem vW {cs:Cs}{d:PyData}(h:xC d=true):∃(s:Str) (a b v:PyData),s∈words/\d=.tuple [.str s,a,b,v]/\uu cs d=tm (cs.of s) a b v:=by
 obtain⟨s,a,b,v,c,rfl⟩:=tu h;exact⟨s,a,b,v,c,rfl,rfl⟩
def zd2 :Scope:=match zr uA with
 |[.Return (some (.ListComp _ _ sc _)) _]=>sc
 |_=>zd uA
def tbU :List (Str×V):=[("price",.non),("come",.bl true),("go",.bl true),("least",.int 1),("most",.int 14),("deal",.non),("fee",.int 0)]
def dA (x:Str):PyData:=if x="price"\/x="deal" then .none else if x="come"\/x="go" then .bool true else if x="least" then .int 1 else if x="most" then .int 14 else .int 0
theorem zJ3 {x:Str}(h:x∈words):∃v,tbU.lookup x=some v/\scV (dA x)=some v:=by
 simp only[words,zY2,zZ8,z33]at h;rcases h with rfl|rfl|rfl|rfl|rfl|rfl|rfl
 ·exact⟨.non,by decide +kernel,by decide +kernel⟩
 ·exact⟨.bl true,by decide +kernel,by decide +kernel⟩
 ·exact⟨.bl true,by decide +kernel,by decide +kernel⟩
 ·exact⟨.int 1,by decide +kernel,by decide +kernel⟩
 ·exact⟨.int 14,by decide +kernel,by decide +kernel⟩
 ·exact⟨.non,by decide +kernel,by decide +kernel⟩
 ·exact⟨.int 0,by decide +kernel,by decide +kernel⟩
def uV (w:Str)(day:Int):PyData->Bool
 |.tuple [.str x,.int a,.int b,_]=>decide (x=w)&&(decide (a<=day)&&decide (day<=b))
 |_=>false
def iF :PyData->PyData
 |.tuple [_,_,_,v]=>v
 |_=>.none
def zj (ds:List PyData)(w:Str)(day:Int):PyData:=match ds.reverse.find? (uV w day)with
 |some d=>iF d
 |none=>dA w
theorem rJ {p:PyData->Bool}{e:PyData}:∀{l:List PyData}{i:Nat},(∀j<i,∀d,l[j]?=some d->p d=false)->l[i]?=some e->p e=true->l.find? p=some e
 |[],i,_,h,_=>by simp at h
 |d::l,0,_,h,q=>by
  simp at h;subst h;simp[z59,q]
 |d::l,i+1,a,h,q=>by
  have hd:=a 0 (ye3 _) d rfl;rw[z59,hd];exact rJ (i:=i) (λj b x c=>a (j+1) (Nat.succ_lt_succ b) x (by simpa using c)) (by simpa using h) q
theorem zg9 {p:PyData->Bool}{l:List PyData}(h:∀(j:Nat) d,l[j]?=some d->p d=false):l.find? p=none:=by
 rw[yb1];intro x b;obtain⟨j,a⟩:=List.mem_iff_getElem?.mp b;rw[h j x a];simp
def jI :List A->(A->Prop)->Prop:=λas Q=>∃x,as=[.dat (.str x)]/\x∈words/\Q (.dat (dA x))
def vH (C:Addr)(cs:Cs):List A->(A->Prop)->Prop:=λas Q=>∃ds x day,as=[.dat (yw C cs ds),.dat (.str x),.dat (.int day)]/\Rules ds/\x∈words/\Q (.dat (zj ds x day))
section
variable {P:Program}{w:World}{K:PySem.W.Frag}{mg:Str->Option Value}{base:Heap}{cs:Cs}
theorem za1 (F:FnD K mg "kept_rules" zt4 ["things"])(nb:NbT mg)(g:∃t,mg "MOST_RULES"=some (.int 24 t))(j:Cal P w K mg base "rule_of" 7 (me cs)):Cal P w K mg base "kept_rules" 8 (bP cs):=by
 refine zV ["things","kept","number","thing","rule"] F λ_ _ _ _ _ _ _ _ Q nd hr h=>?_;obtain⟨ds,rfl,k,m,q⟩:=h;and_intros;refine yh (.many [2,3]) (vJ (by rfl) nb.enumerate (zg 0 rfl (⟨_,rfl,?_⟩)));refine zK (λi α=>∃v2 c v4,α=[some (.dat (.list ds)),some (.own ((ds.take i).map (uu cs))),v2,c,v4]) ⟨none,none,none,rfl⟩ ?_ ?_
 ·rintro i d α hd ⟨v2,c,v4,rfl⟩;obtain⟨e,he,rfl⟩:=xv hd;have f:=(k e (z24 he)).1;have hi:=(zY0.mp he).1;obtain⟨s',a,b,v,l,rfl,n⟩:=vW (cs:=cs) f;have e:(ds.take (i+1)).map (uu cs)=(ds.take i).map (uu cs)++[uu cs (.tuple [.str s',a,b,v])]:=by
   rw[z43,he,z55];rfl
  rw[e];refine⟨_,rfl,?_⟩;and_intros;refine⟨f,?_⟩;and_intros;refine⟨by rw[zX8,z46];omega,?_⟩;and_intros;exact⟨_,_,_,rfl⟩
 ·rintro α ⟨v2,c,v4,rfl⟩;rw[wc,z40];refine wN (vF 1 rfl (jX (aB (by rfl) nb.len (zg 1 rfl ⟨_,rfl,wA (by rfl) g ⟨_,_,rfl,rfl,?_⟩⟩))));refine tS (z06 ?_) ?_
  ·rw[zX8];omega
  ·and_intros;exact q
theorem nW {ds:List PyData}(g:Rules ds):wm (ds.map (uu cs))=true:=by
 induction ds with
 |nil=>rfl
 |cons d r i=>
  have c:=i λx h=>g x (zY5 _ h);have f:=(g d zY9).1;obtain⟨s',a,b,v,l,rfl,k⟩:=vW (cs:=cs) f;obtain⟨_,_,_,_,e,j,_,_,_,hw⟩:=xA f;cases j;have z3:=(uc e hw).2;rw[z02,k];simp only[wm,c,Bool.and_true];simp[tm,vb,noL,sE,z3]
theorem zW5 :zI ["self","rules"] ["self","rules"] (zd xj):=.o
theorem eU {f C:Addr}{dV:Value}{fd:FuncData}(F:zH3 K "__init__" "Book.__init__" xj dV f fd)(c:Cls K C)(na:yu K C "kept")(b:Cal P w K mg base "kept_rules" 8 (bP cs)):yv P w K mg base CX0 9 f fd ["self","rules"] (spI C (qc C cs)):=by
 refine zN6 (N:=[]) F zW5 c na rfl (λas Q h=>?_) (λcdv g outer s H E as Q hr h=>?_) (λ_ _ _ _ _ _=>rfl) (Or.inl rfl)
 ·obtain⟨ds,h|⟨h,_⟩,_⟩:=h<;>rw[h]<;>rfl
 ·obtain⟨ds,h|⟨h,hz⟩,a,e,q⟩:=h
  ·subst h;exact xY b hr (by rfl) (zi (ki (oG (zg 1 rfl (oj (zg 1 rfl (zq ⟨_,rfl,a,e,_,rfl,nW a,q⟩)))))))
  ·subst h hz;exact xY b hr (by rfl) (zi (ki (oG (zg 1 rfl (pR (EvL.d (vV (zq ⟨_,rfl,z35 rfl,zq ⟨[],rfl,a,e,_,rfl,nW a,q⟩⟩))))))))
theorem zN7 :zP ["self"] (zd uA) ["rule"] [none] zd2:=⟨rfl,by decide +kernel,by decide +kernel,by decide +kernel,by decide +kernel,rfl,by decide +kernel⟩
theorem jn {f C:Addr}{fd:FuncData}(c:Cls K C)(na:yu K C "kept")(n:Meth K C "rules" f)(F:Fun K "rules" "Book.rules" uA f fd)(hb:Binds K fd ["self"] [])(O:∀g∈words,xJ P w K mg base (cs.of g) "told" 2 (kh (cs.of g) g)):xJ P w K mg base C "rules" 3 (zn7 C cs):=by
 refine oY ["self"] c n F hb λ_ _ _ _ _ _ _ Q nd hr h=>?_;obtain⟨ds,rfl,m,l,q⟩:=h;refine xp (zy0 (pat:=.one 0) rfl zN7 rfl (λ_ _ _ _=>ya (i:=0) zN7.nd rfl (Or.inl rfl)) (zF (wY c na (zg 0 rfl ⟨_,_,rfl,rfl,⟨_,rfl,by rw[zX8];exact l,?comp⟩⟩))))
 case comp=>
  refine qE (λi acc=>acc=ds.take i) rfl ?_ (λacc h=>?_)
  ·rintro i d acc hd rfl;rw[zY7,zZ3]at hd;obtain⟨e,he,rfl⟩:=hd;obtain⟨s',a,b,v,k,rfl,o⟩:=vW (cs:=cs) (m e (z24 he)).1;refine⟨_,rfl,λC s2 j fp=>kF ?_⟩;rw[if_pos rfl];refine λC s2 j fp=>rN (O s' k) hr (zg 0 rfl ⟨_,rfl,rfl,_,_,_,rfl,?_⟩);show ds.take i++[_]=ds.take (i+1);rw[z43,he];rfl
  ·rw[zX8,z40]at h;rw[h];exact q
theorem fR {a:Addr}(F:FnD K mg "usual" zb7 ["word"])(d:mg "USUAL"=some (.ref a))(b:jL K w a tbU):Cal P w K mg base "usual" 1 jI:=by
 refine zV ["word"] F λ_ _ _ _ _ _ _ _ Q nd hr h=>?_;obtain⟨x,rfl,f,q⟩:=h;obtain⟨v,c,e⟩:=zJ3 f;exact xS (dw (by rfl) d b (zg 0 rfl ⟨x,dA x,v,rfl,c,e,q⟩))
theorem jr {f C:Addr}{fd:FuncData}(c:Cls K C)(na:yu K C "kept")(D:Meth K C "tells_of" f)(F:Fun K "tells_of" "Book.tells_of" jR f fd)(hb:Binds K fd ["self","word","day"] [])(nb:NbT mg)(A:Cal P w K mg base "usual" 1 jI)(s:∀u∈words,xJ P w K mg base (cs.of u) "word" 1 (pT (cs.of u) u))(y:∀u∈words,xJ P w K mg base (cs.of u) "tells" 1 (rf (cs.of u)))
  (p:∀u∈words,Cls K (cs.of u)/\yu K (cs.of u) "worth"):xJ P w K mg base C "tells_of" 2 (vH C cs):=by
 refine oY ["self","word","day","rule"] c D F hb λ_ _ _ _ _ _ _ Q nd hr h=>?_;obtain⟨ds,x,day,rfl,B,r,q⟩:=h;refine yh (.one 3) (zF9 (by rfl) nb.reversed (wY c na (zg 0 rfl ⟨_,_,rfl,rfl,⟨_,rfl,?_⟩⟩)));refine zK (λi α=>(∃n,α=[some (.dat (yw C cs ds)),some (.dat (.str x)),some (.dat (.int day)),n])/\∀j<i,∀d,ds.reverse[j]?=some d->uV x day d=false) ⟨⟨none,rfl⟩,λj o=>absurd o (Nat.not_lt_zero _)⟩ ?_ ?_
 ·rintro i d α hd ⟨⟨n,rfl⟩,hno⟩;rw[<-List.map_reverse,zY7,zZ3]at hd;obtain⟨e,he,rfl⟩:=hd;have m:e∈ds:=ya6.mp (z24 he);obtain⟨u,a,b,v,l,rfl,_,_,_,_⟩:=xA (B e m).1;refine⟨_,rfl,?_⟩;refine wN (EvW.t (zg7 (λ_ k=>zJ1 (rN (s u l) hr (zg 3 rfl ⟨_,rfl,rfl,_,_,_,rfl,zg 1 rfl ⟨_,_,rfl,rfl,k⟩⟩)))
   (λE _ k=>iL (dP (pI (y u l) hr (zg 3 rfl ⟨_,rfl,rfl,zi (zg 2 rfl (zq ⟨_,_,_,_,rfl,_,rfl,k⟩))⟩)))) ?_))
  refine yr (λh=>?_) (λh=>?_)
  ·refine xS (wY (p u l).1 (p u l).2 (zg 3 rfl ⟨_,_,rfl,rfl,?_⟩));have e1:ds.reverse.find? (uV x day)=some (.tuple [.str u,.int a,.int b,v]):=rJ hno he h;unfold zj at q;rw[e1]at q;exact q
  ·refine zx (zx ⟨⟨_,rfl⟩,λj o d' g=>?_⟩);rcases z96 j i with z|z
   ·exact hno j z d' g
   ·have:j=i:=by omega
    subst this;rw[he]at g;cases g;exact h
 ·rintro α ⟨⟨n,rfl⟩,hno⟩;refine xS (yo A (hr.mono (by decide)) (by rfl) (zi (zg 1 rfl (zq ⟨x,rfl,r,?_⟩))));have e1:ds.reverse.find? (uV x day)=none:=zg9 λj d hd=>hno j (by
   have:=(zY0.mp hd).1;rw[z80,zX8]
   rwa [z80]at this) d hd
  unfold zj at q;rw[e1]at q;exact q
end
structure wF (d:PyData):Prop where
 rule:xC d=true
 nice:zY 20011 d
 dep:d.depth<=2
 wn:zY 5000 (iF d)
def zM (ds:List PyData):Prop:=∀d∈ds,wF d
theorem pe {s:Str}(h:s∈words):zY 2000 (.str s):=by
 simp only[words,zY2,zZ8,z33]at h;rcases h with rfl|rfl|rfl|rfl|rfl|rfl|rfl<;>exact⟨rfl,rfl,zZ6 _,by decide +kernel,by decide +kernel⟩
theorem wF.of {s:Str}{i j:Int}{d:PyData}(e:s∈words)(h:0<=i)(g:i<=j)(k:j<=1000000)(hw:zQ (.str s) d=true)(hn:zY 5000 d)(hd:d.depth<=1):wF (.tuple [.str s,.int i,.int j,d]):=by
 have b:(1000001:Int)<big:=by decide
 have c:-big<(0:Int):=by decide
 have na:zZ 5000 [.str s,.int i,.int j,d]:=by
  constructor
  ·intro x a;simp only[zY2,zZ8,z33]at a;rcases a with rfl|rfl|rfl|rfl
   ·exact(pe e).mono (by decide)
   ·exact(zY.int (by omega) (by omega)).mono (by decide)
   ·exact(zY.int (by omega) (by omega)).mono (by decide)
   ·exact hn
  ·intro x a;simp only[zY2,zZ8,z33]at a;rcases a with rfl|rfl|rfl|rfl
   ·exact zZ6 _
   ·exact zZ6 _
   ·exact zZ6 _
   ·omega
 refine⟨?_,zY.tuple na (by show 4*(5000+2)+3<=20011;decide),?_,hn⟩
 ·show(vh (.tuple [.int i,.int j])&&zQ (.str s) d)=true;rw[hw,Bool.and_true];unfold vh zC8;have f:(gA (.int i)&&gA (.int j))=true:=by
   show((decide (0<=i)&&decide (i<=1000000))&&(decide (0<=j)&&decide (j<=1000000)))=true;simp only[z07,z50];omega
  simp only[f,ya8,z50];omega
 ·simp only[PyData.depth,PyData.depthAll];omega
theorem zM.rules {ds:List PyData}(h:zM ds):Rules ds:=λd hd=>⟨(h d hd).rule,(h d hd).nice.shaped,(h d hd).nice.nod⟩
abbrev iO :Stmt:=top 65
abbrev jE :Stmt:=top 66
abbrev aa :Stmt:=top 67
abbrev zu6 :Stmt:=top 68
abbrev aW :Stmt:=top 69
theorem within_int {lo hi i:Int}(b:lo<=i)(a:i<=hi):yI lo hi (.int i)=true:=by
 show(decide (lo<=i)&&decide (i<=hi))=true;rw[z26 b,z26 a];rfl
theorem xZ {i:Int}(h0:-2000000000000<=i)(a:i<=2000000000000):zY 2000 (.int i):=zY.int (by unfold big;omega) (by unfold big;omega)
def pA :Ph:=λas Q=>as=[.tape]/\∀z:Int,0<=z->z<=1000000000000->Q (.dat (.int z))
def nL :Ph:=λas Q=>∃a,as=[.tape,.dat (.str a)]/\a∈words/\∀d,zQ (.str a) d=true->zY 5000 d->d.depth<=1->Q (.dat d)
def jG :Ph:=λas Q=>∃y:Int,as=[.tape,.dat (.int y)]/\0<=y/\y<=1000000/\∀d,wF d->Q (.dat d)
def ba :Ph:=λas Q=>as=[.tape]/\∀z:Int,0<=z->z<=999990->Q (.dat (.int z))
def ir :Ph:=λas Q=>∃y:Int,as=[.tape,.dat (.int y)]/\0<=y/\y<=999990/\∀c g:Int,0<=c->c<g->g<=c+14->g<=1000000->Q (.dat (.tuple [.int c,.int g]))
section
variable {P:Program}{w:World}{K:PySem.W.Frag}{mg:Str->Option Value}{base:Heap}
theorem fY (F:FnD K mg "_law_coins" iO ["_law_row"])(a:Cal P w K mg base "_law_take" 1 xV):Cal P w K mg base "_law_coins" 2 pA:=by
 refine zV ["_law_row","_law_few","_law_many","_law_great"] F λ_ _ _ _ _ _ _ _ Q nd hr h=>?_;obtain⟨rfl,q⟩:=h;and_intros;refine⟨.inl ⟨by decide,by decide⟩,?_⟩;and_intros;refine⟨.inr ⟨by decide,by decide⟩,?_⟩;and_intros;refine⟨.inl ⟨by decide,by decide⟩,?_⟩;and_intros;refine⟨⟨by decide,by decide +kernel⟩,oU rfl (by omega) (by show _<(5:Int);omega) ?_⟩
 repeat refine⟨q _ (by omega) (by omega),?_⟩
 trivial
theorem eL (F:FnD K mg "_law_worth" jE ["_law_row","_law_word"])(j:Cal P w K mg base "_law_take" 1 xV)(k:Cal P w K mg base "_law_coins" 2 pA):Cal P w K mg base "_law_worth" 3 nL:=by
 refine zV ["_law_row","_law_word","_law_many","_law_free","_law_coins_here"] F λ_ _ _ _ _ _ _ _ Q nd hr h=>?_;obtain⟨e,rfl,hw,q⟩:=h;have c:∀z:Int,0<=z->z<=1000000000000->zQ (.str e) (.int z)=true->Q (.dat (.int z)):=λz a b h=>q _ h ((xZ (by omega) (by omega)).mono (by decide)) (zZ6 _);have f:zQ (.str e) .none=true->Q (.dat .none):=λh=>q _ h (zY.none.mono (by decide)) (zZ6 _);have g:∀b,zQ (.str e) (.bool b)=true->Q (.dat (.bool b)):=λb h=>q _ h ((zY.bool _).mono (by decide)) (zZ6 _);simp only[words,zY2,zZ8,z33]at hw;rcases hw with rfl|rfl|rfl|rfl|rfl|rfl|rfl<;>and_intros
 ·refine⟨rfl,λz a b=>?_⟩;and_intros;refine yr (λ_=>?_) λ_=>?_<;>and_intros
  ·exact f rfl
  ·exact c z a b (within_int a b)
 ·exact g _ rfl
 ·exact g _ rfl
 iterate 2
  ·refine mC (λd=>∃z:Int,d=.int z/\0<z/\z<=14) rfl (by assumption) (by assumption) ⟨⟨_,rfl,by decide,by decide⟩,⟨_,rfl,by decide,by decide⟩,trivial⟩ ?_;rintro _ ⟨z,rfl,_,_⟩;and_intros;exact c _ (by omega) (by omega) (within_int (by omega) (by omega))
 ·refine mC (λd=>∃z:Int,d=.int z/\0<z/\z<=13) rfl (by assumption) (by assumption) ⟨⟨_,rfl,by decide,by decide⟩,⟨_,rfl,by decide,by decide⟩,trivial⟩ ?_;rintro _ ⟨z,rfl,_,_⟩;and_intros;have n:∀{i:Int},0<=i->i<=14->zY 2000 (.int i):=λ_ _=>xZ (by omega) (by omega);refine oU rfl (by assumption) (by assumption) ?_
  iterate 2 refine⟨q _ (z90.mpr ⟨within_int (by omega) (by omega),within_int (by omega) (by omega)⟩) (zY.tuple (n:=2000) (zZ.two (n (by omega) (by omega)) (n (by omega) (by omega)) (zZ6 _) (zZ6 _)) (by show 2*(2000+2)+3<=5000;decide)) (zY3 _),?_⟩
  exact⟨f rfl,trivial⟩
 ·refine⟨rfl,λz a b=>?_⟩;and_intros;exact c z a b (within_int a b)
theorem cH (F:FnD K mg "_law_rule" aa ["_law_row","_law_day_here"])(nb:NbT mg)(j:Cal P w K mg base "_law_take" 1 xV)(f:Cal P w K mg base "_law_worth" 3 nL):Cal P w K mg base "_law_rule" 4 jG:=by
 refine zV ["_law_row","_law_day_here","_law_word","_law_ahead","_law_first","_law_last"] F λ_ _ _ _ _ _ _ _ Q nd hr h=>?_;obtain⟨y,rfl,i,l,q⟩:=h;and_intros;refine mC (λd=>∃x,d=.str x/\x∈words) rfl (by assumption) (by assumption) ?_ ?_
 ·repeat refine⟨⟨_,rfl,by simp[words]⟩,?_⟩
  trivial
 rintro _ ⟨m,rfl,hw⟩;and_intros;refine mC (λd=>∃z:Int,d=.int z) rfl (by assumption) (by assumption) ⟨⟨_,rfl⟩,⟨_,rfl⟩,⟨_,rfl⟩,⟨_,rfl⟩,trivial⟩ ?_;rintro _ ⟨g,rfl⟩;and_intros;refine mC (λd=>∃z:Int,d=.int z/\0<=z) rfl (by assumption) (by assumption) ⟨⟨_,rfl,by omega⟩,⟨_,rfl,by omega⟩,⟨_,rfl,by omega⟩,⟨_,rfl,by omega⟩,⟨_,rfl,by omega⟩,trivial⟩ ?_;rintro _ ⟨k,rfl,_⟩;and_intros;refine⟨hw,λe c a b=>?_⟩;and_intros;refine q _ (wF.of hw ?_ ?_ ?_ c a b)<;>repeat split
 all_goals omega
theorem zp9 (F:FnD K mg "_law_day" zu6 ["_law_row"])(a:Cal P w K mg base "_law_take" 1 xV):Cal P w K mg base "_law_day" 2 ba:=by
 refine zV ["_law_row"] F λ_ _ _ _ _ _ _ _ Q nd hr h=>?_;obtain⟨rfl,q⟩:=h;and_intros;refine oU rfl (by assumption) (by assumption) ?_
 repeat refine⟨q _ (by omega) (by omega),?_⟩
 trivial
end
section
variable {P:Program}{w:World}{K:PySem.W.Frag}{mg:Str->Option Value}{base:Heap}
theorem eu (F:FnD K mg "_law_stay" aW ["_law_row","_law_day_here"])(nb:NbT mg)(a:Cal P w K mg base "_law_take" 1 xV):Cal P w K mg base "_law_stay" 2 ir:=by
 refine zV ["_law_row","_law_day_here","_law_come"] F λ_ _ _ _ _ _ _ _ Q nd hr h=>?_;obtain⟨y,rfl,e,g,q⟩:=h;refine yp (λα=>∃c:Int,0<=c/\c<=999999/\α=[some .tape,some (.dat (.int y)),some (.dat (.int c))]) ?_ ?_
 ·refine zX 2 nd (bT rfl (by rfl) nb.min (kQ (vg (r:=1000000) ⟨by decide,by decide,by decide⟩ (by decide) (yc (⟨_,_,rfl,rfl,sJ (zg 1 rfl (yo a hr (by rfl) (yK 0 rfl (zi (yc (zq (⟨_,rfl,by decide,by decide,λv1 d g1=>⟨_,_,rfl,rfl,⟨_,_,rfl,rfl,zx ⟨_,?_,?_,rfl⟩⟩⟩⟩)))))))⟩)))))
  ·split<;>omega
  ·split<;>omega
 rintro α ⟨c,b,f,rfl⟩;and_intros;refine q _ _ b ?_ ?_ ?_
 ·split<;>omega
 ·split<;>omega
 ·split<;>omega
end
theorem zM.snoc {ds:List PyData}{d:PyData}(h:zM ds)(hd:wF d):zM (ds++[d]):=λx a=>by
 rcases z05.mp a with a|a
 ·exact h x a
 ·rw[zZ1.mp a];exact hd
abbrev iN :Stmt:=top 9
def vc :Ph:=λas Q=>∃c g:Int,as=[.dat (.tuple [.int c,.int g])]/\-100<=c/\c<g/\g<=c+500/\c<=1000100/\Q (.own ((zw c (g-c).toNat).map .int))
section
variable {P:Program}{w:World}{K:PySem.W.Frag}{mg:Str->Option Value}{base:Heap}{cs:Cs}
theorem jl (F:FnD K mg "nights_of" iN ["stay"])(nb:NbT mg):Cal P w K mg base "nights_of" 1 vc:=by
 refine zV ["stay"] F λ_ _ _ _ _ _ _ _ Q nd hr h=>?_;obtain⟨c,g,rfl,b,d,a,e,q⟩:=h;exact xp (bU rfl (by rfl) nb.list (by rfl) nb.range (oS (λ_ _=>rfl) (zg 0 rfl (yc (⟨_,_,_,rfl,rfl,rfl,oS (λ_ _=>rfl) (zg 0 rfl (yc (⟨_,_,_,rfl,rfl,rfl,⟨_,_,rfl,rfl,⟨by omega,by omega,by omega,by omega⟩,by omega,q⟩⟩)))⟩)))))
end
abbrev yC :Stmt:=top 47
def qZ :Arguments×Scope:=match zr yC with
 |[.Return (some (.Call _ _ [⟨_,.Lambda ps _ sc _,_⟩] _)) _]=>(ps,sc)
 |_=>(zL yC,zd yC)
section
variable {P:Program}{w:World}{K:PySem.W.Frag}{mg:Str->Option Value}{base:Heap}
theorem zi1 :zI ["prices","places"] ["prices","places"] (zd yC):=.o
theorem zQ8 :wj "place" "prices" qZ.1 qZ.2:=⟨rfl,rfl,rfl,rfl,rfl,by decide +kernel,by decide +kernel,by decide⟩
theorem zI7 {f c:Addr}{b:Around}{outer:List Env}{s:Shared}{H:Hp}{E:XK}{n1:Nat}{p1 p2 p3 p4 p5 p6:Pos}(hhd:PySem.W.codeHdIn K c yk=true)(a:K.In base)(hbi:base.BuiltinsAt mg yk):
  dz (xr CX0 P w K mg base ["prices","places"] "cheapest_first" (zd yC) f (.ref c) b outer s H E).nox c "place" "prices" n1 p1 p2 p3 p4 p5 p6 qZ.1 qZ.2 where
 S:=zQ8
 hy:=rfl
 hcl:=λcl h=>by
  have e:qZ.2.names=[(("prices":Str),NameKind.free),(("place":Str),NameKind.local)]\/qZ.2.names=[(("place":Str),NameKind.local),(("prices":Str),NameKind.free)]:=by decide +kernel
  unfold closureFor;rcases e with e|e<;>rw[e]<;>simp[cellOf,h]
 hgl:=rfl
 hco:=rfl
 hhd:=PySem.W.codeHd_of_K a hhd
 hbi:=hbi
 hdf:=rfl
 hq:=rfl
 hne:=by decide
 hb:=λu cl c' pm ctv=>rfl
 hdx:=by decide
 hdy:=by decide
 hcx:=by decide
 hcy:=by decide
def pw :Ph:=λas Q=>∃ns zs:List Int,as=[.dat (.list (zs.map .int)),.dat (.list (ns.map .int))]/\ns.length<64/\(∀n∈ns,0<=n/\n<zs.length)/\∀ms,zd7 ns zs ms->Q (.own (ms.map .int))
theorem eA {f c:Addr}{oc:Value}{od an:Option Addr}{osl:Array (Option Value)}{kV doc pm ct:Value}(i:K.lookup f=some ⟨oc,od,.func (PySem.W.fnOf "cheapest_first" "cheapest_first" (zL yC) (zr yC) (zd yC) .none kV doc pm an (.ref c) ct),osl⟩)(d:PySem.W.codeIn K (.ref c) "cheapest_first"=true)(kp:PySem.W.keepIn K (.ref f)=true)
  (hm:mg "cheapest_first"=some (.ref f)) (hb:Binds K (PySem.W.fnOf "cheapest_first" "cheapest_first" (zL yC) (zr yC) (zd yC) .none kV doc pm an (.ref c) ct) ["prices","places"] []) (nb:NbT mg) (hhd:PySem.W.codeHdIn K c yk=true) (e:K.In base) (hbi:base.BuiltinsAt mg yk):Cal P w K mg base "cheapest_first" 3 pw:=by
 refine⟨f,_,_,hm,kp,hb,zW9 i d zi1 (λas Q h=>by obtain⟨ns,zs,rfl,_⟩:=h;rfl) λl outer s H E as Q hr h=>?_⟩;obtain⟨ns,zs,rfl,b,a,q⟩:=h;exact xp (ky (j:=0) (k:=0) (zI7 hhd e hbi) hr (by rfl) nb.sorted rfl (zg 1 rfl ⟨ns,zs,rfl,rfl,b,a,λms g=>q ms g⟩))
end
abbrev ie :Stmt:=top 48
def rW :Ph:=λas Q=>∃(zs:List Int) (d:PyData),as=[.dat (.list (zs.map .int)),.dat d]/\zs.length<=500/\bq d/\∀bs:List Bool,bs.length=zs.length->Q (.own (bs.map .bool))
theorem fU (ns:List Int):wm (ns.map .int)=true:=by
 induction ns with
 |nil=>rfl
 |cons n ns a=>rw[z02,wm,a];rfl
section
variable {P:Program}{w:World}{K:PySem.W.Frag}{mg:Str->Option Value}{base:Heap}
theorem lC (F:FnD K mg "marked" ie ["prices","deal"])(nb:NbT mg)(o:Cal P w K mg base "cheapest_first" 3 pw):Cal P w K mg base "marked" 4 rW:=by
 refine zV ["prices","deal","marks","bundle","place","rank","other"] F λ_ _ l _ _ _ _ _ Q nd hr h=>?_;obtain⟨zs,d,rfl,hlen,h,q⟩:=h;refine tf 2 ["price"] [none] (.one 0) (zF (zg 0 rfl ⟨_,rfl,by rw[zX8];omega,zS (λ_=>.bool false) (λ_ _=>⟨_,rfl,λ_ _ _ _ _ k=>za6 k⟩) ?_⟩));rw[z29,show zs.map (λ_=>PyData.bool false)=(zs.map λ_=>false).map .bool by simp];have a:(zs.map λ_=>false).length=zs.length:=by simp
 generalize (zs.map λ_=>false)=bs at a;rcases h with rfl|⟨many,free,rfl,f0,fm,g⟩<;>and_intros
 ·exact q bs a
 refine yh (.one 4) (uT (by rfl) nb.range ?_);and_intros;refine⟨by omega,by rw[zX8];omega,?_⟩;refine zK (λi α=>∃(bs:List Bool) (ns:List Int) (f b c:Option A),bs.length=zs.length/\ns.length<many/\(∀n∈ns,0<=n/\n<zs.length)/\α=[some (.dat (.list (zs.map .int))),some (.dat (.tuple [.int many,.int free])),some (.own (bs.map .bool)),some (.own (ns.map .int)),f,b,c]) ⟨bs,[],none,none,none,a,by simp;omega,by simp,rfl⟩ ?_ ?_
 ·rintro i d α hd ⟨bs,ns,f,b,c,a,ln,hn,rfl⟩;rw[zY7,zZ3]at hd;obtain⟨z,hz,rfl⟩:=hd;have hz:=yV.mp (z24 hz);rw[zX8]at hz;refine⟨_,rfl,vG 3 rfl (zg 4 rfl ⟨by rw[zX8];omega,?_⟩)⟩;have hn:∀n∈ns++[z],0<=n/\n<zs.length:=λn h=>by
   rcases z05.mp h with h|h
   ·exact hn n h
   ·rw[zZ1.mp h];omega
  rw[show ns.map PyData.int++[PyData.int z]=(ns++[z]).map .int by simp];have ln:(ns++[z]).length<=many:=by simp;omega
  generalize ns++[z]=ns at hn ln;refine wN (vF 3 rfl ?_);and_intros;refine yr (λh=>?_) λh=>?_
  ·refine yh (.many [5,6]) (vJ (by rfl) nb.enumerate (EvL.d (pJ 3 rfl ?_)));and_intros;refine⟨ns,zs,rfl,by omega,hn,λms j=>⟨_,rfl,fU ms,_,rfl,?_⟩⟩;refine zK (λr α=>∃(bs:List Bool) (p5 p6:Option A),bs.length=zs.length/\α=[some (.dat (.list (zs.map .int))),some (.dat (.tuple [.int many,.int free])),some (.own (bs.map .bool)),some (.own (ns.map .int)),some (.dat (.int z)),p5,p6]) ⟨bs,b,c,a,rfl⟩ ?_ ?_
   ·rintro r d α hd ⟨bs,p5,p6,a,rfl⟩;obtain⟨e,he,rfl⟩:=xv hd;rw[zY7,zZ3]at he;obtain⟨m,hm,rfl⟩:=he;have hm:=hn m (j.1.mem_iff.mp (z24 hm));refine⟨_,rfl,zC3 2 rfl ?_⟩;and_intros;refine⟨_,m.toNat,rfl,?_,zx ⟨bs.set m.toNat (decide (((0+r:Nat):Int)<(free:Int))),_,_,by rw[z28,a],by rw[List.map_set]<;>rfl⟩⟩;unfold ixN;rw[if_pos hm.1,if_pos (by rw[zX8];omega)]
   ·rintro α ⟨bs,p5,p6,a,rfl⟩;and_intros;exact⟨bs,[],_,_,_,a,by simp;omega,by simp,rfl⟩
  ·have h:=yi4 h;and_intros;exact⟨bs,ns,_,_,_,a,by simp at h;omega,hn,rfl⟩
 ·rintro α ⟨bs,ns,f,b,c,a,_,_,rfl⟩;and_intros;exact q bs a
end
abbrev nc :Stmt:=top 52
abbrev zO6 :Stmt:=top 53
abbrev zR1 :Stmt:=top 54
theorem fi {x:Str}(h:x∈words):zQ (.str x) (dA x)=true:=by
 simp only[words,zY2,zZ8,z33]at h;rcases h with rfl|rfl|rfl|rfl|rfl|rfl|rfl<;>decide +kernel
theorem ym {ds:List PyData}(h:∀d∈ds,xC d=true){x:Str}(b:x∈words)(day:Int):zQ (.str x) (zj ds x day)=true:=by
 unfold zj;split
 ·rename_i d e;obtain⟨u,i,j,v,c,rfl,_,_,_,hw⟩:=xA (h d (ya6.mp (ya4 e)));have:=yh4 e;have a:(decide (u=x)&&(decide (i<=day)&&decide (day<=j)))=true:=this;rw[z07,z50]at a;rw[<-a.1];exact hw
 ·exact fi b
def isF :PyData->Bool
 |.bool b=>!b
 |_=>false
def intOf :PyData->Int
 |.int i=>i
 |_=>0
section
variable {ds:List PyData}(h:∀d∈ds,xC d=true)(day:Int)
include h
theorem cu :∃b,zj ds "come" day=.bool b:=bool_inv (by rw[<-lM];exact ym h (by simp[words]) day)
theorem zQ2 :∃b,zj ds "go" day=.bool b:=bool_inv (by rw[<-dh];exact ym h (by simp[words]) day)
theorem pL :∃i,zj ds "least" day=.int i/\1<=i/\i<=14:=zE (by rw[<-mT];exact ym h (by simp[words]) day)
theorem kM :∃i,zj ds "most" day=.int i/\1<=i/\i<=14:=zE (by rw[<-km];exact ym h (by simp[words]) day)
theorem zO3 :∃i,zj ds "fee" day=.int i/\0<=i/\i<=1000000000000:=zE (by
 have:=ym h (x:="fee") (by simp[words]) day;rw[fM]at this;exact this)
theorem zm0 :zj ds "price" day=.none\/∃i,zj ds "price" day=.int i/\0<=i/\i<=1000000000000:=by
 have:=ym h (x:="price") (by simp[words]) day;rw[tE,ya9]at this;rcases this with z|z
 ·left;cases e:zj ds "price" day with
  |none=>rfl
  |_=>rw[e]at z;cases z
 ·exact .inr (zE z)
end
def pB (x:Str)(d:Int):PyData:=.tuple [.str x,.int d]
def xP (ds:List PyData)(c:Int)(n:Nat):List PyData:=((zw c n).filter λz=>xl (zj ds "price" z)).map (pB "price")
def opt (b:Bool)(d:PyData):List PyData:=if b=true then [d]else []
def vt (ds:List PyData)(c g:Int):List PyData:=xP ds c (g-c).toNat++opt (isF (zj ds "come" c)) (pB "come" c)++opt (isF (zj ds "go" g)) (pB "go" g)++opt (decide (g-c<intOf (zj ds "least" c))) (pB "least" c)++opt (decide (intOf (zj ds "most" c)<g-c)) (pB "most" c)
theorem uj (b:Bool)(d:PyData):(opt b d).length<=1:=by unfold opt;split<;>simp
theorem tq (ds:List PyData)(c:Int)(n:Nat):(xP ds c n).length<=n:=by
 unfold xP;rw[zX8];have:=z69 (λz=>xl (zj ds "price" z)) (zw c n);rw[zl]at this;exact this
def aO (C:Addr)(cs:Cs):Ph:=λas Q=>∃ds c g,as=[.dat (yw C cs ds),.dat (.tuple [.int c,.int g])]/\Rules ds/\-100<=c/\c<g/\g<=c+100/\c<=1000100/\Q (.own (vt ds c g))
def zo7 :Scope:=match zr nc with
 |[_,_,.Assign _ (.ListComp _ _ sc _) _,_,_,_,_,_]=>sc
 |_=>zd nc
section
variable {P:Program}{w:World}{K:PySem.W.Frag}{mg:Str->Option Value}{base:Heap}{cs:Cs}
theorem zO8 :zP ["book","stay","come","go","told"] (zd nc) ["night","book"] [none,some 0] zo7:=⟨rfl,by decide +kernel,by decide +kernel,by decide +kernel,by decide +kernel,rfl,by decide +kernel⟩
theorem nA (ds:List PyData)(ns:List Int)(f:PyData->Bool)(hf:∀z,f (.int z)=xl (zj ds "price" z))(g:PyData->PyData)(hg:∀z,g (.int z)=pB "price" z):((ns.map PyData.int).filter f).map g=(ns.filter λz=>xl (zj ds "price" z)).map (pB "price"):=by
 rw[List.filter_map,z54];have e1:(f∘PyData.int)=λz=>xl (zj ds "price" z):=funext hf;have a:(g∘PyData.int)=pB "price":=funext hg;rw[e1,a]
def zN4 :PyData->Int
 |.int z=>z
 |_=>0
abbrev pV (C:Addr)(cs:Cs)(ds:List PyData)(c g:Int)(l:List PyData):List (Option A):=[some (.dat (yw C cs ds)),some (.dat (.tuple [.int c,.int g])),some (.dat (.int c)),some (.dat (.int g)),some (.own l)]
theorem cy {C:Addr}(F:FnD K mg "bars" nc ["book","stay"])(u:Cal P w K mg base "nights_of" 1 vc)(r:xJ P w K mg base C "tells_of" 2 (vH C cs)):Cal P w K mg base "bars" 3 (aO C cs):=by
 refine zV ["book","stay","come","go","told"] F λ_ _ _ _ _ _ _ _ Q nd hr h=>?_;obtain⟨ds,c,g,rfl,e,v,cg,g1,x,q⟩:=h;have n:∀d∈ds,xC d=true:=λd hd=>(e d hd).1;refine zX 2 nd (oS (λ_ _=>rfl) (zg 1 rfl (yc (⟨_,_,_,rfl,rfl,rfl,?_⟩))));refine zX 3 nd (oS (λ_ _=>rfl) (zg 1 rfl (yc (⟨_,_,_,rfl,rfl,rfl,?_⟩))));refine yp (·=pV C cs ds c g (xP ds c (g-c).toNat)) ?_ ?_
 ·refine zz5 4 (pat:=.one 0) nd rfl zO8 rfl (λ_ _ _ _=>ya (i:=0) zO8.nd rfl (by first|exact Or.inl rfl|exact Or.inr rfl)) (zF (EvL.d (xY u (hr.mono (by decide)) (by rfl) (zi (zg 1 rfl (zq (⟨c,g,rfl,by omega,by omega,by omega,by omega,⟨_,rfl,⟨_,rfl,⟨by rw[zX8,zl];omega,?comp⟩⟩⟩⟩)))))))
  case comp=>
   refine rn (λd=>xl (zj ds "price" (zN4 d))) (λd=>pB "price" (zN4 d)) (λd hd=>?_) ?_
   ·obtain⟨z,_,rfl⟩:=z47.mp hd;refine⟨_,rfl,λC s2 s fp Q k=>xX (oG (pI r hr (zg 1 rfl ⟨_,rfl,rfl,zi (wZ (zi (zg 0 rfl (zq ⟨ds,_,_,rfl,e,by simp[words],k⟩))))⟩))),λ_ C s2 s fp Q k=>ji (zi (wZ (zi (zg 0 rfl (zq (⟨_,rfl,z35 rfl,k⟩))))))⟩
   ·refine zx ?_;rw[z29,nA ds _ _ (λ_=>rfl) _ (λ_=>rfl)];rfl
 rintro α rfl;have t:=tq ds c (g-c).toNat;obtain⟨m,f⟩:=cu n c;obtain⟨o,j⟩:=zQ2 n g;obtain⟨a,p,_,_⟩:=pL n c;obtain⟨im,em,_,_⟩:=kM n c;have B:∀(l:List PyData) (b:Bool) (d:PyData) (k:Nat),l.length<=k->(l++opt b d).length<=k+1:=λl b d k h=>by have:=uj b d;rw[z04];omega
 have l1:=B _ (isF (zj ds "come" c)) (pB "come" c) _ t;have l2:=B _ (isF (zj ds "go" g)) (pB "go" g) _ l1;have l3:=B _ (decide (g-c<intOf (zj ds "least" c))) (pB "least" c) _ l2;unfold vt at q;rw[f,j,p,em]at q;rw[f,j,p]at l3;rw[f,j]at l2;rw[f]at l1;refine yp (·=pV C cs ds c g (xP ds c (g-c).toNat++opt (isF (.bool m)) (pB "come" c))) ?_ ?_
 ·and_intros;refine⟨ds,_,_,rfl,e,by simp[words],⟨m,by rw[f];rfl,?_⟩⟩;cases m<;>and_intros
  ·exact⟨by omega,zx (zx rfl)⟩
  ·exact congrArg (pV C cs ds c g) (z45 _).symm
 rintro α rfl;generalize xP ds c (g-c).toNat++opt (isF (.bool m)) (pB "come" c)=acc at *;refine yp (·=pV C cs ds c g (acc++opt (isF (.bool o)) (pB "go" g))) ?_ ?_
 ·and_intros;refine⟨ds,_,_,rfl,e,by simp[words],⟨o,by rw[j];rfl,?_⟩⟩;cases o<;>and_intros
  ·exact⟨by omega,zx (zx rfl)⟩
  ·exact congrArg (pV C cs ds c g) (z45 _).symm
 rintro α rfl;generalize acc++opt (isF (.bool o)) (pB "go" g)=acc at *;refine yp (·=pV C cs ds c g (acc++opt (decide (g-c<a)) (pB "least" c))) ?_ ?_
 ·and_intros;refine⟨ds,_,_,rfl,e,by simp[words],⟨_,a,rfl,p,?_⟩⟩;generalize decide (g-c<a)=b;cases b<;>and_intros
  ·exact congrArg (pV C cs ds c g) (z45 _).symm
  ·exact⟨by omega,zx (zx rfl)⟩
 rintro α rfl
 change (acc++opt (decide (g-c<a)) (pB "least" c)).length<=_ at l3
 change Q (.own (acc++opt (decide (g-c<a)) (pB "least" c)++_))at q
 generalize acc++opt (decide (g-c<a)) (pB "least" c)=acc at *;refine yp (·=pV C cs ds c g (acc++opt (decide (im<g-c)) (pB "most" c))) ?_ ?_
 ·and_intros;refine⟨ds,_,_,rfl,e,by simp[words],⟨_,im,rfl,em,?_⟩⟩;generalize decide (im<g-c)=b;cases b<;>and_intros
  ·exact congrArg (pV C cs ds c g) (z45 _).symm
  ·exact⟨by omega,zx (zx rfl)⟩
 rintro α rfl;exact wJ 4 rfl q
end
theorem cA {d:PyData}(h:rS d=true):∃many free:Nat,d=.tuple [.int many,.int free]/\0<free/\free<many/\many<64:=by
 unfold rS at h;split at h
 ·rename_i m r;rw[z07]at h;obtain⟨i,e,b,i1⟩:=zE h.1;obtain⟨j,a,c,f⟩:=zE h.2;subst a;injection e with e;subst e;refine⟨m.toNat,j.toNat,?_,by omega,by omega,by omega⟩;rw[show((m.toNat:Nat):Int)=m by omega,show((j.toNat:Nat):Int)=j by omega]
 ·cases h
theorem zJ4 {ds:List PyData}(h:∀d∈ds,xC d=true)(day:Int):bq (zj ds "deal" day):=by
 have:=ym h (x:="deal") (by simp[words]) day;rw[kl,ya9]at this;rcases this with z|z
 ·left;cases e:zj ds "deal" day with
  |none=>rfl
  |_=>rw[e]at z;cases z
 ·exact .inr (cA z)
theorem zM.all {ds:List PyData}(h:zM ds):∀d∈ds,xC d=true:=λd hd=>(h d hd).rule
def gc (ds:List PyData)(c g:Int):Prop:=∀z,c<=z->z<g->xl (zj ds "price" z)=false
def iH (ds:List PyData)(c:Int):Int:=intOf (zj ds "fee" c)
theorem sv {ds:List PyData}{c g z:Int}(h:zM ds)(s:gc ds c g)(h0:c<=z)(b:z<g):zj ds "price" z=.int (intOf (zj ds "price" z))/\0<=intOf (zj ds "price" z)/\intOf (zj ds "price" z)<=1000000000000:=by
 rcases zm0 h.all z with e|⟨i,e,a,i1⟩
 ·have:=s z h0 b;rw[e]at this;cases this
 ·rw[e];exact⟨rfl,a,i1⟩
theorem zi6 {ds:List PyData}(h:zM ds)(c:Int):zj ds "fee" c=.int (iH ds c)/\0<=iH ds c/\iH ds c<=1000000000000:=by
 obtain⟨i,e,a,i1⟩:=zO3 h.all c;unfold iH;rw[e];exact⟨rfl,a,i1⟩
def vP (c g:Int):Prop:=0<=c/\c<g/\g<=c+14/\g<=1000000
def sF (ds:List PyData)(c g:Int):Bool:=(vt ds c g).isEmpty
theorem xO {α:Type}{a b:List α}:(a++b).isEmpty=(a.isEmpty&&b.isEmpty):=by cases a<;>rfl
theorem si {b:Bool}{d:PyData}:(opt b d).isEmpty=!b:=by cases b<;>rfl
theorem pk {ds:List PyData}{c g:Int}:sF ds c g=true↔gc ds c g/\isF (zj ds "come" c)=false/\isF (zj ds "go" g)=false/\¬g-c<intOf (zj ds "least" c)/\¬intOf (zj ds "most" c)<g-c:=by
 unfold sF vt;rw[xO,xO,xO,xO,si,si,si,si];have:(xP ds c (g-c).toNat).isEmpty=true↔gc ds c g:=by
  unfold xP gc;rw[List.isEmpty_iff,List.map_eq_nil_iff,List.filter_eq_nil_iff];refine⟨λh z a b=>?_,λh z hz=>?_⟩
  ·have:=h z (yV.mpr ⟨a,by omega⟩);simpa using this
  ·have hz:=yV.mp hz;rw[h z hz.1 (by omega)];decide
 simp only[z07,this,ya3,z91,and_assoc]
theorem eS {ds:List PyData}{c g:Int}(h:sF ds c g=true):gc ds c g:=(pk.mp h).1
theorem nZ {ds:List PyData}{c g:Int}(cg:c<=g){d:PyData}(h:d∈vt ds c g):∃(x:Str) (z:Int),d=pB x z/\x∈words/\c<=z/\z<=g:=by
 unfold vt at h;simp only[z05]at h;have a:∀{b:Bool} {x:Str} {z:Int},d∈opt b (pB x z)->d=pB x z:=λ{b x z} h=>by
  cases b
  ·simp[opt]at h
  ·simpa[opt]using h
 rcases h with(((h|h)|h)|h)|h
 ·obtain⟨z,hz,rfl⟩:=z47.mp h;have hz:=yV.mp (z39.mp hz).1;exact⟨_,z,rfl,by simp[words],hz.1,by omega⟩
 ·exact⟨_,c,a h,by simp[words],by omega,by omega⟩
 ·exact⟨_,g,a h,by simp[words],by omega,by omega⟩
 ·exact⟨_,c,a h,by simp[words],by omega,by omega⟩
 ·exact⟨_,c,a h,by simp[words],by omega,by omega⟩
theorem jN {x:Str}{z:Int}(c:x∈words)(h0:-100<=z)(d:z<=2000000):zY 5000 (pB x z)/\(pB x z).depth<=1:=by
 have b:(2000001:Int)<big:=by decide
 have a:-big<(-100:Int):=by decide
 exact⟨zY.tuple (n:=2000) (zZ.two (pe c) (zY.int (by omega) (by omega)) (zZ6 _) (zZ6 _)) (by show 2*(2000+2)+3<=5000;decide),by simp[pB,PyData.depth,PyData.depthAll]⟩
theorem ze1 {ds:List PyData}{c g:Int}:(vt ds c g).length<=(g-c).toNat+4:=by
 unfold vt;simp only[z04];have h0:=tq ds c (g-c).toNat;have e:=uj (isF (zj ds "come" c)) (pB "come" c);have a:=uj (isF (zj ds "go" g)) (pB "go" g);have d:=uj (decide (g-c<intOf (zj ds "least" c))) (pB "least" c);have b:=uj (decide (intOf (zj ds "most" c)<g-c)) (pB "most" c);omega
theorem qv {ds:List PyData}{c g:Int}(f:vP c g):zY sizeLine (.list (vt ds c g)):=by
 obtain⟨i,cg,g1,g2⟩:=f;refine zY.list (n:=5000) ⟨λd hd=>?_,λd hd=>?_⟩ ?_
 ·obtain⟨x,z,rfl,e,a,b⟩:=nZ (by omega) hd;exact(jN e (by omega) (by omega)).1
 ·obtain⟨x,z,rfl,e,a,b⟩:=nZ (by omega) hd;have:=(jN e (z:=z) (by omega) (by omega)).2;omega
 ·have j:(vt ds c g).length*(5000+2)<=18*(5000+2):=Nat.mul_le_mul_right _ (by have:=ze1 (ds:=ds) (c:=c) (g:=g);omega);have h:18*(5000+2)+2<=sizeLine:=by decide
  omega
theorem zg3 {ds:List PyData}:PyData.eqv (.list ds) (.list [])=ds.isEmpty:=by
 cases ds<;>rfl
def zs7 (C:Addr)(cs:Cs):Ph:=λas Q=>∃(ds:List PyData) (c g:Int),as=[.dat (yw C cs ds),.dat (.tuple [.int c,.int g])]/\zM ds/\vP c g/\Q (.dat (.bool (sF ds c g)))
section
variable {P:Program}{w:World}{K:PySem.W.Frag}{mg:Str->Option Value}{base:Heap}{cs:Cs}
theorem zr7 {C:Addr}(F:FnD K mg "can_be_had" zO6 ["book","stay"])(i:Cal P w K mg base "bars" 3 (aO C cs)):Cal P w K mg base "can_be_had" 4 (zs7 C cs):=by
 refine zV ["book","stay"] F λ_ _ e _ _ _ _ _ Q nd hr h=>?_;obtain⟨ds,c,g,rfl,b,a,q⟩:=h;obtain⟨f,cg,g1,g2⟩:=id a;and_intros;refine⟨ds,c,g,rfl,b.rules,by omega,by omega,by omega,by omega,?_⟩;and_intros;exact eqk (qv a).shaped rfl (qv a).nod rfl (by rw[show PyData.eqv (A.own (vt ds c g)).d (.list [])=sF ds c g from zg3];exact q)
abbrev sNP :Stmt:=top 49
abbrev zv6 :Stmt:=top 50
def zQ0 (C:Addr)(cs:Cs):Ph:=λas Q=>∃(ds:List PyData) (ns:List Int) (pr:Int->Int),as=[.dat (yw C cs ds),.dat (.list (ns.map .int))]/\Rules ds/\ns.length<=900/\(∀z∈ns,zj ds "price" z=.int (pr z))/\Q (.own ((ns.map pr).map .int))
def du (C:Addr)(cs:Cs):Ph:=λas Q=>∃(ds:List PyData) (c g:Int),as=[.dat (yw C cs ds),.dat (.tuple [.int c,.int g])]/\zM ds/\vP c g/\gc ds c g/\∀(x:Int) (r:List PyData),Q (.dat (.tuple (.int x::r)))
def zy5 (C:Addr)(cs:Cs):Ph:=λas Q=>∃(ds:List PyData) (c g:Int),as=[.dat (yw C cs ds),.dat (.tuple [.int c,.int g])]/\zM ds/\vP c g/\(sF ds c g=true->∀x:Int,Q (.dat (.int x)))/\(sF ds c g=false->Q (.dat .none))
theorem zE8 {C:Addr}(F:FnD K mg "night_prices" sNP ["book","nights"])(g:xJ P w K mg base C "tells_of" 2 (vH C cs)):Cal P w K mg base "night_prices" 3 (zQ0 C cs):=by
 refine zV ["book","nights","prices","night","price"] F λ_ _ f _ _ _ _ _ Q nd hr h=>?_;obtain⟨ds,ns,pr,rfl,e,j,c,q⟩:=h;and_intros;refine yh (.one 3) (zF (zg 1 rfl ⟨_,rfl,?_⟩));refine zK (λi α=>∃b a:Option A,α=[some (.dat (yw C cs ds)),some (.dat (.list (ns.map .int))),some (.own (((ns.take i).map pr).map .int)),b,a]) ⟨none,none,rfl⟩ ?_ ?_
 ·rintro i d α hd ⟨b,a,rfl⟩;rw[zY7,zZ3]at hd;obtain⟨z,hz,rfl⟩:=hd;have hi:=(zY0.mp hz).1;refine⟨_,rfl,zX 4 nd ?_⟩;and_intros;refine⟨ds,_,_,rfl,e,by simp[words],?_⟩;show SvS _ (List.set _ _ (some (.dat (zj ds "price" z)))) _ _;rw[c z (z24 hz)];and_intros;refine⟨by rw[zX8,zX8,z46];omega,?_⟩;and_intros;exact⟨_,_,by rw[z43,hz,z55,z55]<;>rfl⟩
 ·rintro α ⟨b,a,rfl⟩;rw[zX8,z40];and_intros;exact q
theorem cG {C:Addr}(F:FnD K mg "bill" zv6 ["book","stay"])(nb:NbT mg)(r:xJ P w K mg base C "tells_of" 2 (vH C cs))(v:Cal P w K mg base "nights_of" 1 vc)(p:Cal P w K mg base "night_prices" 3 (zQ0 C cs))(t:Cal P w K mg base "marked" 4 rW):Cal P w K mg base "bill" 5 (du C cs):=by
 refine zV ["book","stay","nights","prices","marks","fee","rows","paid"] F λ_ _ _ _ _ _ _ _ Q nd hr h=>?_;obtain⟨ds,c,g,rfl,a,⟨o,cg,g1,g2⟩,f,q⟩:=h;have e:=a.rules;and_intros;refine⟨c,g,rfl,by omega,cg,by omega,by omega,?_⟩;generalize hn:(g-c).toNat=n;have ln:(zw c n).length=n:=zl ..;and_intros;refine⟨ds,zw c n,λz=>intOf (zj ds "price" z),rfl,e,by omega,λz hz=>(sv a f (yV.mp hz).1 (by have:=(yV.mp hz).2;omega)).1,?_⟩;have pm:∀z∈(zw c n).map (λz=>intOf (zj ds "price" z)),0<=z/\z<=1000000000000:=λz hz=>by
  obtain⟨y,hy,rfl⟩:=z47.mp hz;have hy:=yV.mp hy;exact(sv a f hy.1 (by omega)).2
 have m:=zX8 (as:=zw c n) λz=>intOf (zj ds "price" z);generalize (zw c n).map (λz=>intOf (zj ds "price" z))=zs at pm m;and_intros;refine⟨ds,_,_,rfl,e,by simp[words],?_⟩;and_intros;refine⟨zs,_,rfl,by omega,zJ4 a.all c,λbs u=>?_⟩;refine zX 5 nd ?_;and_intros;refine⟨ds,_,_,rfl,e,by simp[words],?_⟩;show SvS _ (List.set _ _ (some (.dat (zj ds "fee" c)))) _ _;rw[(zi6 a c).1];refine zX 6 nd (EvL.d (nj rfl (by rfl) nb.list (by rfl) nb.zip ?_));and_intros;have l1:(zs.map PyData.int).length=((zw c n).map PyData.int).length:=by simp;omega
 have l2:(bs.map PyData.bool).length=((zw c n).map PyData.int).length:=by simp;omega
 refine⟨_,_,_,rfl,l1,l2,by simp;omega,by simp;omega,?_⟩;refine zX 7 nd (zk6 rfl (by rfl) nb.sum (EvL.d (yz ["row"] [none] (.one 0) (zF (zg 6 rfl ⟨_,rfl,by rw[uM l1 l2];simp;omega,?_⟩)))));refine rn (λd=>!tX d) (zC4 1) (λd hd=>?_) ?_
 ·obtain⟨j,l⟩:=List.mem_iff_getElem?.mp hd;obtain⟨x,y,z,e1,s,i,rfl⟩:=uP l;rw[zY7,zZ3]at i;obtain⟨b,_,rfl⟩:=i;refine⟨_,rfl,λ_ _ _ _ _ k=>xX ?_,λ_ _ _ _ _ _ k=>?_⟩<;>and_intros
  ·exact k
  ·exact k
 rw[z29,sI (by rw[zX8]at l1;exact l1) (by rw[zX8]at l2;exact l2)];refine⟨_,rfl,λz hz=>by have:=pm z (vB hz);omega,kn (λz hz=>pm z (vB hz)) (zY8 (qu _ _) (by omega)),?_⟩;and_intros;exact q _ _
theorem zr0 {C:Addr}(F:FnD K mg "cost_or_none" zR1 ["book","stay"])(i:Cal P w K mg base "can_be_had" 4 (zs7 C cs))(j:Cal P w K mg base "bill" 5 (du C cs)):Cal P w K mg base "cost_or_none" 6 (zy5 C cs):=by
 refine zV ["book","stay"] F λ_ _ _ _ _ _ _ _ Q nd hr h=>?_;obtain⟨ds,c,g,rfl,b,a,d,f⟩:=h;and_intros;refine⟨ds,c,g,rfl,b,a,?_⟩;and_intros;refine ui (λe=>?_) (λe=>?_)<;>and_intros
 ·refine⟨ds,c,g,rfl,b,a,eS e,λx r=>?_⟩;and_intros;exact d e x
 ·exact f e
end
abbrev jD :Stmt:=top 70
def mP :Ph:=λas Q=>∃y m:Int,as=[.tape,.dat (.int y),.dat (.int m)]/\0<=y/\y<=999990/\0<=m/\m<=20/\∀ds,zM ds->(ds.length:Int)<=m+1->Q (.own ds)
theorem take_snoc {β:Type}{l:List β}{i:Nat}{d:β}(h:l[i]?=some d):l.take (i+1)=l.take i++[d]:=by rw[z43,h];rfl
section
variable {P:Program}{w:World}{K:PySem.W.Frag}{mg:Str->Option Value}{base:Heap}
theorem rj (F:FnD K mg "_law_rules" jD ["_law_row","_law_day_here","_law_most"])(nb:NbT mg)(f:Cal P w K mg base "_law_take" 1 xV)(p:Cal P w K mg base "_law_coins" 2 pA)(CR:Cal P w K mg base "_law_rule" 4 jG):Cal P w K mg base "_law_rules" 5 mP:=by
 refine zV ["_law_row","_law_day_here","_law_most","_law_rules_here","_law_k"] F λ_ _ _ _ _ _ _ _ Q nd hr h=>?_;obtain⟨y,m,rfl,o,t,m0,m1,q⟩:=h;have g:(1000001:Int)<big:=by decide
 refine yH 3 nd (vV (zq (⟨_,rfl,z35 rfl,?_⟩)));refine yp (λα=>∃ds,zM ds/\ds.length<=1/\α=[some .tape,some (.dat (.int y)),some (.dat (.int m)),some (.own ds),none]) ?_ ?_
 ·refine wN (jX (yo f (hr.mono (by decide)) (by rfl) (yK 0 rfl (zi (yc (zq (⟨_,rfl,by decide,by decide,λv1 j g1=>yc ⟨_,_,rfl,rfl,?_⟩⟩)))))));refine cR (λk=>?_) (λk=>?_)
  ·refine vG 3 rfl (ji (zi (wZ (zi (yc (zi (vg (r:=1000000) ⟨by decide,by decide,by decide⟩ (by decide) (zi (yo p (hr.mono (by decide)) (by rfl) (yK 0 rfl (zq ⟨rfl,λz l n=>zq ⟨_,rfl,z35 rfl,⟨by simp,?_⟩⟩⟩)))))))))));refine zx (zx ⟨_,?_,?_,rfl⟩)
   ·intro d hd;rw[z29]at hd;rw[zZ1.mp hd];refine wF.of (by simp[words]) (by decide) (by decide) (by decide) ?_ ((xZ (by omega) (by omega)).mono (by decide)) (zZ6 _);rw[tE];show(false||yI 0 1000000000000 (.int z))=true;rw[within_int l n];rfl
   ·simp
  ·exact zx (zx ⟨[],λd hd=>by simp at hd,by simp,rfl⟩)
 rintro α ⟨c,a,s,rfl⟩;refine lO (pat:=.one 4) ye1 rfl (ya (i:=4) nd rfl (by first|exact Or.inl rfl|exact Or.inr rfl)) (uT (by rfl) nb.range (yo f (hr.mono (by decide)) (by rfl) (yK 0 rfl (zi (sJ (zg 2 rfl (yc ⟨_,_,rfl,rfl,zq (⟨_,rfl,by omega,by omega,λv1 j g1=>⟨_,rfl,by omega,by omega,?_⟩⟩)⟩)))))));refine zK (λi α=>∃ds v4,zM ds/\ds.length<=1+i/\α=[some .tape,some (.dat (.int y)),some (.dat (.int m)),some (.own ds),v4]) ⟨c,none,a,s,rfl⟩ ?_ ?_
 ·rintro i d α hd ⟨ds,v4,b,ld,rfl⟩;have hi:=(zY0.mp hd).1;rw[zX8,zl]at hi;refine⟨_,rfl,?_⟩;refine vG 3 rfl (yo CR hr (by rfl) (yK 0 rfl (zi (zg 1 rfl (zq ⟨y,rfl,o,by omega,λe he=>⟨by omega,?_⟩⟩)))));exact zx ⟨_,_,b.snoc he,by simp;omega,rfl⟩
 ·rintro α ⟨ds,v4,b,ld,rfl⟩;rw[zX8,zl]at ld;exact wJ 3 rfl (q ds b (by omega))
end
abbrev zM1 :Stmt:=top 17
abbrev zv9 :Stmt:=top 18
def hT (n:Int)(x:Str)(z:Int):PyData:=.tuple [.int n,.str x,.int z]
def pPr (ds:List PyData)(z:Int):Bool:=xl (zj ds "price" z)
def pF (ds:List PyData)(x:Str)(z:Int):Bool:=isF (zj ds x z)
def pLe (ds:List PyData)(z:Int):Bool:=decide (1<intOf (zj ds "least" z))
def pMo (ds:List PyData)(g z:Int):Bool:=decide (intOf (zj ds "most" z)<g-z)
def sel (p:Int->Bool)(lo hi:Int):List Int:=(zw lo (hi-lo).toNat).filter p
def vL (h:Str->Int->PyData)(ds:List PyData)(c g:Int):List PyData:=
 (sel (pPr ds) c g).map (h "price")++(sel (pF ds "come") c g).map (h "come")++(sel (pF ds "go") (c+1) (g+1)).map (h "go")++(sel (pLe ds) c g).map (h "least")++(sel (pMo ds g) c g).map (h "most")
def wO (n:Nat):List (List PyData)->Int->Int->List PyData
 |[],_,_=>[]
 |ds::r,c,g=>vL (hT n) ds c g++wO (n+1) r c g
theorem xt (p:Int->Bool)(lo hi:Int):(sel p lo hi).length<=(hi-lo).toNat:=by
 unfold sel;have:=z69 p (zw lo (hi-lo).toNat);rw[zl]at this;exact this
theorem uH (h:Str->Int->PyData)(ds:List PyData)(c g:Int):(vL h ds c g).length<=5*(g-c).toNat:=by
 unfold vL;simp only[z04,zX8];have b:=xt (pPr ds) c g;have d:=xt (pF ds "come") c g;have a:=xt (pF ds "go") (c+1) (g+1);have e:=xt (pLe ds) c g;have f:=xt (pMo ds g) c g;omega
theorem wB (c g:Int):∀(told:List (List PyData)) (n:Nat),(wO n told c g).length<=told.length*(5*(g-c).toNat)
 |[],n=>by simp[wO]
 |ds::r,n=>by
  have:=wB c g r (n+1);have a:=uH (hT n) ds c g;simp only[wO,z04,z00];rw[Nat.add_mul];omega
theorem rZ (c g:Int)(ds:List PyData):∀(told:List (List PyData)) (n:Nat),wO n (told++[ds]) c g=wO n told c g++vL (hT ((n+told.length:Nat):Int)) ds c g
 |[],n=>by simp[wO]
 |e::r,n=>by
  simp only[yc7,wO];rw[rZ c g ds r (n+1),List.append_assoc,z00,show n+1+r.length=n+(r.length+1) by omega]
def zy2 (C:Addr)(cs:Cs):Ph:=λas Q=>∃(n:Int) (ds:List PyData) (c g:Int),as=[.dat (.int n),.dat (yw C cs ds),.dat (.tuple [.int c,.int g])]/\Rules ds/\0<=c/\c<g/\g<=c+14/\g<=1000000/\Q (.own (vL (hT n) ds c g))
def rp (C:Addr)(cs:Cs):Ph:=λas Q=>∃(told:List (List PyData)) (c g:Int),as=[.dat (.list (told.map (yw C cs))),.dat (.tuple [.int c,.int g])]/\(∀ds∈told,Rules ds)/\told.length<=4/\0<=c/\c<g/\g<=c+14/\g<=1000000/\Q (.own (wO 0 told c g))
def re3 (n:Int):PyData->PyData
 |.tuple [.str x,.int z]=>hT n x z
 |d=>d
theorem zb5 (n:Int)(ds:List PyData)(c g:Int):(vL pB ds c g).map (re3 n)=vL (hT n) ds c g:=by
 unfold vL;simp only[z55,z54];rfl
theorem zg0 {p:Int->Bool}{lo hi z:Int}(h:z∈sel p lo hi):lo<=z/\z<hi:=by
 obtain⟨i,a,rfl⟩:=z47.mp (z39.mp h).1;have:=List.mem_range.mp a;omega
theorem ag {h:Str->Int->PyData}{ds:List PyData}{c g:Int}{d:PyData}(m:d∈vL h ds c g):∃x z,d=h x z/\x∈words/\c<=z/\z<=g:=by
 unfold vL at m;simp only[z05]at m;rcases m with(((m|m)|m)|m)|m<;>
 ·obtain⟨z,hz,rfl⟩:=z47.mp m;have:=zg0 hz;exact⟨_,z,rfl,by simp[words],by omega,by omega⟩
section
variable {P:Program}{w:World}{K:PySem.W.Frag}{mg:Str->Option Value}{base:Heap}{cs:Cs}
abbrev nHB :List Str:=["number","book","stay","come","go","nights","found"]
theorem zL7 {ds:List PyData}{x:Str}{z:Int}{T:Bool->Prop}(h:∃b,zj ds x z=.bool b)(k:T (pF ds x z)):∃k,zD8 (zj ds x z)=some k/\T (!k):=by
 obtain⟨b,e⟩:=h;unfold pF at k;rw[e]at k ⊢;exact⟨b,rfl,k⟩
theorem zl2 {C:Addr}(F:FnD K mg "hindrances_by" zM1 ["number","book","stay"])(nb:NbT mg)(o:Cal P w K mg base "nights_of" 1 vc)(m:xJ P w K mg base C "tells_of" 2 (vH C cs)):Cal P w K mg base "hindrances_by" 3 (zy2 C cs):=by
 refine zV nHB F λ_ _ _ _ _ _ _ _ Q nd hr h=>?_;obtain⟨n,ds,c,g,rfl,i,l,cg,g1,g2,q⟩:=h;have j:∀d∈ds,xC d=true:=λd hd=>(i d hd).1;have L:∀{a b:Int},b<=a+14->((zw a (b-a).toNat).map PyData.int).length<=1000:=λ{a b} h=>by rw[zX8,zl];omega
 have s1:=xt (pPr ds) c g;have s2:=xt (pF ds "come") c g;have s3:=xt (pF ds "go") (c+1) (g+1);have s4:=xt (pLe ds) c g;refine zX 3 nd ?_;and_intros;refine⟨c,g,rfl,by omega,by omega,by omega,by omega,?_⟩;and_intros;refine tf 6 ["day","book"] [none,some 1] (.one 0) (zF (zg 5 rfl ⟨_,rfl,L (by omega),yL (pPr ds) (pB "price") (λz _=>⟨_,rfl,λC s2 f fp Q k=>xX ?_,λ_ C s2 f fp Q k=>?_⟩) ?_⟩))
 ·and_intros;exact⟨ds,_,_,rfl,i,by simp[words],k⟩
 ·and_intros;exact k
 refine we 6 rfl (EvL.d (yz ["day","book"] [none,some 1] (.one 0) (zF (zg 5 rfl ⟨_,rfl,L (by omega),yL (pF ds "come") (pB "come") (λz _=>⟨_,rfl,λC s2 f fp Q k=>xX ?_,λ_ C s2 f fp Q k=>?_⟩) ⟨_,rfl,by simp only[z29,zX8];unfold sel at s1 s2;omega,?_⟩⟩))))
 ·and_intros;exact⟨ds,_,_,rfl,i,by simp[words],zL7 (cu j z) k⟩
 ·and_intros;exact k
 refine we 6 rfl (EvL.d (yz ["day","book"] [none,some 1] (.one 0) (vC (by rfl) nb.range ?_)));and_intros;refine⟨⟨by omega,by omega,by omega,by omega⟩,L (by omega),yL (pF ds "go") (pB "go") (λz _=>⟨_,rfl,λC s2 f fp Q k=>xX ?_,λ_ C s2 f fp Q k=>?_⟩) ⟨_,rfl,by simp only[z29,z04,zX8];unfold sel at s1 s2 s3;omega,?_⟩⟩
 ·and_intros;exact⟨ds,_,_,rfl,i,by simp[words],zL7 (zQ2 j z) k⟩
 ·and_intros;exact k
 refine we 6 rfl (EvL.d (yz ["day","book"] [none,some 1] (.one 0) (zF (zg 5 rfl ⟨_,rfl,L (by omega),yL (pLe ds) (pB "least") (λz _=>⟨_,rfl,λC s2 f fp Q k=>xX ?_,λ_ C s2 f fp Q k=>?_⟩) ⟨_,rfl,by simp only[z29,z04,zX8];unfold sel at s1 s2 s3 s4;omega,?_⟩⟩))))
 ·and_intros;obtain⟨b,e,_,_⟩:=pL j z;unfold pLe at k;rw[e]at k;refine⟨ds,_,_,rfl,i,by simp[words],?_⟩;and_intros;exact⟨b,_,e,rfl,k⟩
 ·and_intros;exact k
 refine we 6 rfl (EvL.d (yz ["day","book","go"] [none,some 1,some 4] (.one 0) (zF (zg 5 rfl ⟨_,rfl,L (by omega),yL (pMo ds g) (pB "most") (λz _=>⟨_,rfl,λC s2 f fp Q k=>xX ?_,λ_ C s2 f fp Q k=>?_⟩) ⟨_,rfl,by have:=uH pB ds c g;simp only[vL,z04]at this;simp only[z29,z04];unfold sel at this;omega,?_⟩⟩))))
 ·and_intros;obtain⟨b,e,_,_⟩:=kM j z;unfold pMo at k;rw[e]at k;refine⟨ds,_,_,rfl,i,by simp[words],?_⟩;and_intros;exact⟨b,_,e,rfl,k⟩
 ·and_intros;exact k
 refine rg 6 rfl (xp (yz ["word","day","number"] [none,none,some 0] (.many [0,1]) (zF (zg 6 rfl ⟨vL pB ds c g,rfl,?_,?_⟩))))
 ·have:=uH pB ds c g;omega
 rw[<-List.map_id (vL pB ds c g)];refine zS (g:=id) (re3 n) (λd hd=>?_) ?_
 ·obtain⟨x,z,rfl,_⟩:=ag hd;refine⟨_,rfl,λC s2 f fp Q k=>?_⟩;and_intros;exact k
 ·rw[z29,zb5];exact q
abbrev nHi :List Str:=["books","stay","found","number","book"]
theorem bY {C:Addr}(F:FnD K mg "hindrances" zv9 ["books","stay"])(nb:NbT mg)(k:Cal P w K mg base "hindrances_by" 3 (zy2 C cs)):Cal P w K mg base "hindrances" 4 (rp C cs):=by
 refine zV (nHi) F λ_ _ _ _ _ _ _ _ Q nd hr h=>?_;obtain⟨told,c,g,rfl,m,lt,l,cg,g1,g2,q⟩:=h;refine yH 2 nd (vV (zq (⟨_,rfl,z35 rfl,?_⟩)));refine lO (pat:=.many [3,4]) ye1 rfl (vj (n:=2) (K:=K) rfl rfl (wC (ya (i:=3) nd rfl (by first|exact Or.inl rfl|exact Or.inr rfl)) (wC (ya (i:=4) nd rfl (by first|exact Or.inl rfl|exact Or.inr rfl)) (uF)))) (vJ (by rfl) nb.enumerate (zg 0 rfl (⟨_,rfl,?_⟩)));refine zK (λi α=>∃b v4,α=[some (.dat (.list (told.map (yw C cs)))),some (.dat (.tuple [.int c,.int g])),some (.own (wO 0 (told.take i) c g)),b,v4]) ⟨none,none,rfl⟩ ?_ ?_
 ·rintro i d α hd ⟨b,v4,rfl⟩;obtain⟨e,he,rfl⟩:=xv hd;rw[zY7,zZ3]at he;obtain⟨ds,a,rfl⟩:=he;have hi:=(zY0.mp a).1;have f:=rZ c g ds (told.take i) 0;rw[<-take_snoc a,z46,Nat.min_eq_left (by omega)]at f;have o:=wB c g (told.take i) 0;have j:(told.take i).length*(5*(g-c).toNat)<=4*70:=yi1 (by rw[z46];omega) (by omega);have l1:=uH (hT ((0+i:Nat):Int)) ds c g;rw[f];refine⟨_,rfl,?_⟩;refine we 2 rfl (EvL.d (xY k (hr.mono (by decide)) (by rfl) (zi (zg 3 rfl (zi (zg 4 rfl (zi (zg 1 rfl (zq ⟨_,ds,c,g,rfl,m ds (z24 a),l,cg,g1,g2,⟨_,rfl,⟨_,rfl,by omega,?_⟩⟩⟩)))))))));exact zx ⟨_,_,rfl⟩
 ·rintro α ⟨b,v4,rfl⟩;rw[wc,zX8,z40];exact wJ 2 rfl q
end
abbrev H3 :=Int×Str×Int
def hD (h:H3):PyData:=hT h.1 h.2.1 h.2.2
def hK (h:H3):List Key:=[.inl h.1,.inr h.2.1,.inl h.2.2]
theorem zB9 {a b:H3}(e:hK a=hK b):a=b:=by
 obtain⟨a1,a2,g⟩:=a;obtain⟨h,f,i⟩:=b;simp only[hK,List.cons.injEq,Sum.inl.injEq,Sum.inr.injEq,and_true]at e;obtain⟨e1,c,d⟩:=e;subst e1 c d;rfl
def yQ (a:List H3)(n:Int)(x:Str)(z:Int):Bool:=a.any λh=>decide (h=(n,x,z))
theorem wq {a:List H3}{n:Int}{x:Str}{z:Int}:yQ a n x z=true↔(n,x,z)∈a:=by
 unfold yQ;rw[z93]
 constructor
 ·rintro⟨h,hm,e⟩;rw[<-z66 e];exact hm
 ·intro hm;exact⟨_,hm,z26 rfl⟩
abbrev Fo :=Int->Str->Int->Bool
theorem zi7 {a:List H3}{ds:List (PyData×PyData)}(h:∀k,inT ds k=qg (a.map λh=>(hK h,PyData.bool true)) k)(n:Int)(x:Str)(z:Int):inT ds [.inl n,.inr x,.inl z]=yQ a n x z:=by
 rw[h];unfold qg yQ;rw[yh6]
 congr 1
 funext q
 show decide (hK q=hK (n,x,z))=decide (q=(n,x,z));by_cases e:q=(n,x,z)
 ·subst e;simp
 ·rw[z06 e,z06 λw=>e (zB9 w)]
def leD (ds:List PyData)(b:Int):Int:=intOf (zj ds "least" b)
def moD (ds:List PyData)(b:Int):Int:=intOf (zj ds "most" b)
def vv (fo:Fo)(n:Int)(ds:List PyData)(b e:Int):Bool:=
 !(fo n "come" b||fo n "go" e)&&(!(fo n "least" b&&decide (e-b<leD ds b))&&(!(fo n "most" b&&decide (moD ds b<e-b))&&!((zw b (e-b).toNat).any λz=>fo n "price" z)))
def edB (fo:Fo)(told:List (List PyData))(b e:Int):Prop:=∃(n:Nat) (ds:List PyData),told[n]?=some ds/\vv fo (n:Int) ds b e=true
inductive Way (E:Int->Int->Prop)(a:Int):Int->Prop
 |nil:Way E a a
 |snoc {x y:Int}:Way E a x->E x y->Way E a y
theorem Way.last {E:Int->Int->Prop}{x z:Int}(h:Way E x z):x=z\/∃y,Way E x y/\E y z:=by
 cases h with
 |nil=>exact .inl rfl
 |snoc h e=>exact .inr ⟨_,h,e⟩
def upE (fo:Fo)(told:List (List PyData))(x y:Int):Prop:=x<y/\edB fo told x y
abbrev wX (fo:Fo)(told:List (List PyData))(c g:Int):Prop:=Way (upE fo told) c g
theorem Way.le {fo:Fo}{told:List (List PyData)}{c g:Int}(h:wX fo told c g):c<=g:=by
 induction h with
 |nil=>exact yf8 _
 |snoc _ e a=>have:=e.1;omega
noncomputable def tr (p:Prop):Bool:=@decide p (Classical.propDecidable p)
theorem sH {p:Prop}:tr p=true↔p:=@decide_eq_true_iff p (Classical.propDecidable p)
theorem lW {p:Prop}(h:p):tr p=true:=sH.mpr h
theorem zk2 {p:Prop}(h:¬p):tr p=false:=by
 cases e:tr p with
 |false=>rfl
 |true=>exact absurd (sH.mp e) h
def th (n:Int)(x:Str)(z:Int):H3:=(n,x,z)
def xK (n:Int)(ds:List PyData)(c g:Int):List H3:=
 (sel (pPr ds) c g).map (th n "price")++(sel (pF ds "come") c g).map (th n "come")++(sel (pF ds "go") (c+1) (g+1)).map (th n "go")++(sel (pLe ds) c g).map (th n "least")++(sel (pMo ds g) c g).map (th n "most")
def zo (n:Nat):List (List PyData)->Int->Int->List H3
 |[],_,_=>[]
 |ds::r,c,g=>xK n ds c g++zo (n+1) r c g
theorem eo (n:Int)(ds:List PyData)(c g:Int):(xK n ds c g).map hD=vL (hT n) ds c g:=by
 unfold vL xK;simp only[z55,z54];rfl
theorem yq (c g:Int):∀(told:List (List PyData)) (n:Nat),(zo n told c g).map hD=wO n told c g
 |[],n=>rfl
 |ds::r,n=>by
  show(xK n ds c g++zo (n+1) r c g).map hD=vL (hT n) ds c g++wO (n+1) r c g;rw[z55,eo,yq c g r (n+1)]
def Wd (a:List H3):Prop:=∀h∈a,h.2.1∈words
theorem aC (n:Int)(ds:List PyData)(c g:Int):∀h∈xK n ds c g,h.2.1∈words/\h.1=n:=by
 intro h hm;unfold xK at hm;simp only[z05]at hm;rcases hm with(((m|m)|m)|m)|m<;>
 ·obtain⟨z,hz,rfl⟩:=z47.mp m;exact⟨by simp[words,th],rfl⟩
theorem wx (c g:Int):∀(told:List (List PyData)) (n:Nat),Wd (zo n told c g)
 |[],n=>λh hm=>by simp[zo]at hm
 |ds::r,n=>λh hm=>by
  rcases z05.mp hm with hm|hm
  ·exact(aC _ _ _ _ h hm).1
  ·exact wx c g r (n+1) h hm
theorem kb {x:Str}(h:x∈words):PySem.PyData.strOk x=true:=by
 simp only[words,zY2,zZ8,z33]at h;rcases h with rfl|rfl|rfl|rfl|rfl|rfl|rfl<;>decide +kernel
theorem oC {h:H3}(w:h.2.1∈words):(hD h).canLay0=true:=by
 show(true&&(PySem.PyData.strOk h.2.1&&(true&&true)))=true;rw[kb w];rfl
theorem rV (h:H3):(hD h).depth<=60:=by
 show PyData.depth (.tuple [.int h.1,.str h.2.1,.int h.2.2])<=60;simp[PyData.depth,PyData.depthAll]
theorem ud (h:H3):(hD h).hasDict=false:=rfl
theorem pO :∀{a:List H3},Wd a->PyData.canLayAll0 (a.map hD)=true
 |[],_=>rfl
 |h::r,w=>by
  show((hD h).canLay0&&PyData.canLayAll0 (r.map hD))=true;rw[oC (w h zY9),pO λq hq=>w q (zY5 _ hq)];rfl
theorem pK :∀(a:List H3),PyData.hasDictAll (a.map hD)=false
 |[]=>rfl
 |h::r=>by
  show((hD h).hasDict||PyData.hasDictAll (r.map hD))=false;rw[ud,pK r];rfl
theorem js (a b:H3):PyData.eqv (hD a) (hD b)=decide (a=b):=by
 obtain⟨a1,a2,e⟩:=a;obtain⟨f,d,g⟩:=b;show PyData.eqv (.tuple [.int a1,.str a2,.int e]) (.tuple [.int f,.str d,.int g])=_;by_cases e1:a1=f
 ·by_cases c:a2=d
  ·by_cases h:e=g
   ·subst e1 c h;simp[PyData.eqv,PyData.eqvAll]
   ·simp[PyData.eqv,PyData.eqvAll,e1,c,h]
  ·simp[PyData.eqv,PyData.eqvAll,e1,c]
 ·simp[PyData.eqv,PyData.eqvAll,e1]
def inH (a:List H3)(h:H3):Bool:=a.any λy=>decide (y=h)
theorem zb2 (a:List H3)(h:H3):((a.map hD).any λy=>PyData.eqv y (hD h))=inH a h:=by
 unfold inH;rw[yh6]
 congr 1
 funext q
 exact js q h
theorem jC {a:List H3}{h:H3}:inH a h=true↔h∈a:=by
 unfold inH;rw[z93]
 constructor
 ·rintro⟨y,hm,e⟩;rw[<-z66 e];exact hm
 ·intro hm;exact⟨h,hm,z26 rfl⟩
def ue (told:List (List PyData))(c g:Int)(ss:List H3):List H3:=(zo 0 told c g).filter λh=>inH ss h
abbrev zO5 :Stmt:=top 19
abbrev nh :Stmt:=top 20
abbrev nB :Stmt:=top 21
abbrev qX :Stmt:=top 22
structure SB (b e:Int):Prop where
 b0:0<=b
 lt:b<e
 e14:e<=b+14
 e1:e<=1000000
noncomputable def foT (D:List (PyData×PyData)):Fo:=λn x z=>inT D [.inl n,.inr x,.inl z]
def xH (C:Addr)(cs:Cs)(told:List (List PyData)):PyData:=.list (told.map (yw C cs))
def zx2 (C:Addr)(cs:Cs):Ph:=λas Q=>∃(n:Int) (ds:List PyData) (b e:Int) (D:List (PyData×PyData)),as=[.dat (.int n),.dat (yw C cs ds),.dat (.tuple [.int b,.int e]),.dat (tN D)]/\Rules ds/\SB b e/\Q (.dat (.bool (vv (foT D) n ds b e)))
def qB (C:Addr)(cs:Cs):Ph:=λas Q=>∃(told:List (List PyData)) (bs:List Int) (y:Int) (D:List (PyData×PyData)),as=[.dat (xH C cs told),.dat (.list (bs.map .int)),.dat (.int y),.dat (tN D)]/\(∀ds∈told,Rules ds)/\told.length<=4/\(∀b∈bs,SB b y)/\Q (.dat (.bool (tr (∃b∈bs,edB (foT D) told b y))))
def vD (C:Addr)(cs:Cs):Ph:=λas Q=>∃(told:List (List PyData)) (c g:Int) (a:List H3),as=[.dat (xH C cs told),.dat (.tuple [.int c,.int g]),.dat (.list (a.map hD))]/\(∀ds∈told,Rules ds)/\told.length<=4/\SB c g/\a.length<=300/\Q (.dat (.bool (!tr (wX (yQ a) told c g))))
def rH (C:Addr)(cs:Cs):Ph:=λas Q=>∃(told:List (List PyData)) (c g:Int) (ss:List H3),as=[.dat (xH C cs told),.dat (.tuple [.int c,.int g]),.dat (.list (ss.map hD))]/\(∀ds∈told,Rules ds)/\told.length<=4/\SB c g/\Wd ss/\Q (.dat (.bool (!tr (wX (yQ (ue told c g ss)) told c g))))
theorem uR {a:Type}(g:a->PyData):∀(l:List a) (n:Nat),vS n (l.map g)=(l.zipIdx n).map λp=>.tuple [.int (p.2:Nat),g p.1]
 |[],n=>rfl
 |x::l,n=>by
  rw[z02,List.zipIdx_cons,z02];show _::vS (n+1) (l.map g)=_;rw[uR g l (n+1)]
theorem zd6 {fo:Fo}{told:List (List PyData)}{b e:Int}:(told.zipIdx.any λp=>vv fo (p.2:Nat) p.1 b e)=true↔edB fo told b e:=by
 rw[z93]
 constructor
 ·rintro⟨⟨ds,n⟩,hm,h⟩;exact⟨n,ds,(List.mk_mem_zipIdx_iff_getElem?).mp hm,h⟩
 ·rintro⟨n,ds,a,c⟩;exact⟨(ds,n),(List.mk_mem_zipIdx_iff_getElem?).mpr a,c⟩
section
variable {P:Program}{w:World}{K:PySem.W.Frag}{mg:Str->Option Value}{base:Heap}{cs:Cs}
theorem zr1 {C:Addr}(F:FnD K mg "lets" zO5 ["number","book","stay","force"])(nb:NbT mg)(t:Cal P w K mg base "nights_of" 1 vc)(s:xJ P w K mg base C "tells_of" 2 (vH C cs)):Cal P w K mg base "lets" 3 (zx2 C cs):=by
 refine zV ["number","book","stay","force","come","many"] F λ_ _ _ _ _ _ _ _ Q nd hr h=>?_;obtain⟨n,ds,b,e,D,rfl,j,r,q⟩:=h;obtain⟨b0,bl,e14,e1⟩:=id r;obtain⟨le,hle,_,_⟩:=pL (λd hd=>(j d hd).1) b;obtain⟨mo,i,_,_⟩:=kM (λd hd=>(j d hd).1) b;have o:leD ds b=le:=by unfold leD;rw[hle];rfl
 have m:moD ds b=mo:=by unfold moD;rw[i];rfl
 unfold vv at q;rw[o,m]at q;and_intros;have l:∀{x y:Bool},x=y->Q (.dat (.bool x))->Q (.dat (.bool y)):=λe z=>e▸z;refine ui (λf=>?_) (λf=>?_)
 ·have f:foT D n "come" b=true:=f;and_intros;exact l (by rw[f];rfl) q
 have f:foT D n "come" b=false:=f;and_intros;refine yr (λg=>?_) (λg=>?_)
 ·have g:foT D n "go" e=true:=g;and_intros;exact l (by rw[f,g];rfl) q
 have g:foT D n "go" e=false:=g;rw[f,g]at q;refine zx ?_;refine yp (λα=>α=[some (.dat (.int n)),some (.dat (yw C cs ds)),some (.dat (.tuple [.int b,.int e])),some (.dat (tN D)),some (.dat (.int b)),some (.dat (.int (e-b)))]/\(foT D n "least" b&&decide (e-b<le))=false) ?_ ?_
 ·and_intros;refine ui (λc=>?_) (λc=>?_)
  ·have c:foT D n "least" b=true:=c;and_intros;refine⟨ds,"least",b,rfl,j,by simp[words],?_⟩;rw[hle];and_intros;refine yr (λa=>?_) (λa=>?_)
   ·and_intros;exact l (by rw[c,a];rfl) q
   ·and_intros;exact⟨rfl,by rw[c,a];rfl⟩
  ·have c:foT D n "least" b=false:=c;and_intros;exact⟨rfl,by rw[c];rfl⟩
 rintro α ⟨rfl,c⟩;rw[c]at q;refine yp (λα=>α=[some (.dat (.int n)),some (.dat (yw C cs ds)),some (.dat (.tuple [.int b,.int e])),some (.dat (tN D)),some (.dat (.int b)),some (.dat (.int (e-b)))]/\(foT D n "most" b&&decide (mo<e-b))=false) ?_ ?_
 ·and_intros;refine ui (λa=>?_) (λa=>?_)
  ·have a:foT D n "most" b=true:=a;and_intros;refine⟨ds,"most",b,rfl,j,by simp[words],?_⟩;rw[i];and_intros;refine yr (λp=>?_) (λp=>?_)
   ·and_intros;exact l (by rw[a,p];rfl) q
   ·and_intros;exact⟨rfl,by rw[a,p];rfl⟩
  ·have a:foT D n "most" b=false:=a;and_intros;exact⟨rfl,by rw[a];rfl⟩
 rintro α ⟨rfl,a⟩;rw[a]at q;refine xS (zd9 (aR rfl (by rfl) nb.any (EvL.d (yz ["night","number","force"] [none,some 0,some 3] (.one 0) (zF (EvL.d ?_))))));and_intros;refine⟨b,e,rfl,by omega,bl,by omega,by omega,?_⟩;and_intros;refine⟨by rw[zX8,zl];omega,?_⟩;refine zS (λz=>.bool (foT D n "price" z)) (λz hz=>⟨_,rfl,λ_ _ _ _ _ k=>?_⟩) ?_
 ·and_intros;exact k
 rw[z29,show(zw b (e-b).toNat).map (λz=>PyData.bool (foT D n "price" z))=((zw b (e-b).toNat).map λz=>foT D n "price" z).map .bool by rw[z54]<;>rfl];and_intros;rw[yh6];exact q
theorem ng {C:Addr}(F:FnD K mg "leads_to" nh ["books","begins","day","force"])(nb:NbT mg)(s:Cal P w K mg base "lets" 3 (zx2 C cs)):Cal P w K mg base "leads_to" 4 (qB C cs):=by
 refine zV ["books","begins","day","force","begin"] F λ_ _ r _ _ _ _ _ Q nd hr h=>?_;obtain⟨told,bs,y,D,rfl,o,t,n,q⟩:=h;refine yh (.one 4) (zF (zg 1 rfl ⟨_,rfl,?_⟩));refine zK (λi α=>∃f:Option A,α=[some (.dat (xH C cs told)),some (.dat (.list (bs.map .int))),some (.dat (.int y)),some (.dat (tN D)),f]/\∀b∈bs.take i,¬edB (foT D) told b y) ⟨none,rfl,λb hb=>by simp at hb⟩ ?_ ?_
 ·rintro i x α g ⟨f,rfl,c⟩;rw[zY7,zZ3]at g;obtain⟨b,j,rfl⟩:=g;have bm:=z24 j;refine⟨_,rfl,?_⟩;refine wN (mD (aR rfl (by rfl) nb.any (EvL.d (yz ["number","book","begin","day","force"] [none,none,some 4,some 2,some 3] (.many [0,1]) (vJ (by rfl) nb.enumerate (zg 0 rfl ⟨_,rfl,?_⟩))))));rw[uR];refine⟨by rw[zX8,List.length_zipIdx];omega,?_⟩;refine zS (λp=>.bool (vv (foT D) (p.2:Nat) p.1 b y)) (λp l=>⟨_,rfl,λ_ _ _ _ _ k=>?_⟩) ?_
  ·and_intros;exact⟨_,p.1,b,y,D,rfl,o p.1 (yd1 l),n b bm,k⟩
  rw[z29,show told.zipIdx.map (λp=>PyData.bool (vv (foT D) (p.2:Nat) p.1 b y))=(told.zipIdx.map λp=>vv (foT D) (p.2:Nat) p.1 b y).map .bool by rw[z54]<;>rfl];and_intros;rw[yh6];refine yr (λe=>?_) (λe=>?_)
  ·have e:=zd6.mp (show(told.zipIdx.any λp=>vv (foT D) (p.2:Nat) p.1 b y)=true from e);rw[lW (p:=∃b∈bs,edB (foT D) told b y) ⟨b,bm,e⟩]at q;and_intros;exact q
  ·and_intros;intro m a;rw[take_snoc j]at a;rcases z05.mp a with a|a
   ·exact c m a
   ·rw[zZ1.mp a];intro z;have:=zd6.mpr z;rw[show(told.zipIdx.any λp=>vv (foT D) (p.2:Nat) p.1 b y)=false from e]at this;cases this
 ·rintro α ⟨f,rfl,c⟩;rw[zX8,z40]at c;rw[zk2 (p:=∃b∈bs,edB (foT D) told b y) λ⟨b,hb,z⟩=>c b hb z]at q;and_intros;exact q
theorem inI (ns:List Int)(z:Int):inD (.int z) (ns.map .int)=decide (z∈ns):=by
 induction ns with
 |nil=>rfl
 |cons d ds a=>
  rw[z02];unfold inD at a ⊢;rw[z84,a];by_cases h:z=d
  ·subst h;simp[scV,eqV]
  ·simp[scV,eqV,h,z23 h]
theorem zR9 (ds:List Int):(ds.map PyData.int).all vd=true:=by
 rw[List.all_map,ya5];intro z _;rfl
theorem fJ {fo:Fo}{told:List (List PyData)}{c y:Int}{rs:List Int}{i:Nat}(hy:y=c+1+i)(hr:∀x,x∈rs↔x<=c+i/\wX fo told c x):wX fo told c y↔∃b∈rs,edB fo told b y:=by
 constructor
 ·intro h;rcases h.last with e|⟨x,d,a⟩
  ·omega
  ·have:=a.1;exact⟨x,(hr x).mpr ⟨by omega,d⟩,a.2⟩
 ·rintro⟨b,hb,he⟩;obtain⟨d,a⟩:=(hr b).mp hb;exact .snoc a ⟨by omega,he⟩
theorem mF {C:Addr}(F:FnD K mg "is_held_off" nB ["books","stay","some"])(nb:NbT mg)(m:mg "dict"=none)(N:Cal P w K mg base "leads_to" 4 (qB C cs)):Cal P w K mg base "is_held_off" 5 (vD C cs):=by
 refine zV ["books","stay","some","force","reached","day"] F λ_ _ O _ _ _ _ _ Q nd hr h=>?_;obtain⟨told,c,g,l,rfl,G,I,E,M,q⟩:=h;obtain⟨L,cg,B,g1⟩:=id E;refine zX 3 nd (zf0 rfl hr.units (by rfl) m (EvL.d (yz ["hindrance"] [none] (.one 0) (zF (zg 2 rfl ⟨_,rfl,?_⟩)))));refine⟨by rw[zX8];omega,?_⟩;refine zS (λh=>prD (hK h,.bool true)) (λh R=>⟨_,rfl,λ_ _ _ _ _ k=>?_⟩) ?_
 ·and_intros;exact k
 refine⟨l.map λh=>(hK h,.bool true),by rw[z54]<;>rfl,λD s=>?_⟩;have H:foT D=yQ l:=by funext n x z;exact zi7 s n x z
 refine yH 4 nd ?_;and_intros;refine yh (.one 5) (vC (by rfl) nb.range ?_);and_intros;refine⟨⟨by omega,by omega,by omega,by omega⟩,?_⟩;refine zK (λi α=>∃(o:Option A) (rs:List Int),α=[some (.dat (xH C cs told)),some (.dat (.tuple [.int c,.int g])),some (.dat (.list (l.map hD))),some (.dat (tN D)),some (.own (rs.map .int)),o]/\rs.length<=1+i/\∀x,x∈rs↔x<=c+i/\wX (yQ l) told c x) ⟨none,[c],rfl,by simp,λx=>?_⟩ ?_ ?_
 ·constructor
  ·intro h;rw[zZ1.mp h];exact⟨by omega,.nil⟩
  ·rintro⟨v,f⟩;have:=f.le;rw[show x=c by omega];exact zZ1.mpr rfl
 ·rintro i x α t ⟨o,rs,rfl,J,a⟩;rw[zY7,zZ3]at t;obtain⟨u,r,rfl⟩:=t;have hi:=(zY0.mp r).1;rw[zl]at hi;rw[yA hi]at r;cases r;have ts:=fJ (fo:=yQ l) (told:=told) (c:=c) (y:=c+1+(i:Int)) rfl a;refine⟨_,rfl,?_⟩;refine wN (vF 4 rfl ?_);and_intros;refine⟨told,rs,c+1+(i:Int),D,rfl,G,I,λb hb=>?_,?_⟩
  ·obtain⟨v,f⟩:=(a b).mp hb;have:=f.le;exact⟨by omega,by omega,by omega,by omega⟩
  rw[H];and_intros;refine yr (λf=>?_) (λf=>?_)
  ·have f:=ts.mpr (sH.mp f);and_intros;refine⟨by rw[zX8];omega,?_⟩;and_intros;refine⟨_,rs++[c+1+(i:Int)],by rw[z55]<;>rfl,by simp;omega,λx=>?_⟩;rw[z05,zZ1,a]
   constructor
   ·rintro(⟨p,j⟩|rfl)
    ·exact⟨by omega,j⟩
    ·exact⟨by omega,f⟩
   ·rintro⟨p,j⟩;by_cases e:x=c+1+(i:Int)
    ·exact .inr e
    ·exact .inl ⟨by omega,j⟩
  ·and_intros;refine⟨_,rs,rfl,by omega,λx=>?_⟩;rw[a]
   constructor
   ·rintro⟨p,j⟩;exact⟨by omega,j⟩
   ·rintro⟨p,j⟩;by_cases e:x=c+1+(i:Int)
    ·subst e;rw[lW (ts.mp j)]at f;cases f
    ·exact⟨by omega,j⟩
 ·rintro α ⟨o,rs,rfl,J,a⟩;rw[zX8,zl]at a;refine xS (oq 4 rfl ?_);and_intros;refine ink rfl (zR9 _) ?_;rw[inI];refine⟨rfl,?_⟩;rw[show decide (g∈rs)=tr (wX (yQ l) told c g) by
   rw[z99,decide_eq_true_iff,sH,a];exact⟨λz=>z.2,λz=>⟨by omega,z⟩⟩]
  exact q
theorem kO (told:List (List PyData))(c g:Int)(ss:List H3)(a:told.length<=4)(h:g<=c+14):(ue told c g ss).length<=300:=by
 have e:=z69 (λh=>inH ss h) (zo 0 told c g);have b:=wB c g told 0;rw[<-yq,zX8]at b;have d:told.length*(5*(g-c).toNat)<=4*70:=yi1 a (by omega);unfold ue;omega
theorem oR {C:Addr}(F:FnD K mg "holds_off" qX ["books","stay","some"])(nb:NbT mg)(n:Cal P w K mg base "hindrances" 4 (rp C cs))(m:Cal P w K mg base "is_held_off" 5 (vD C cs)):Cal P w K mg base "holds_off" 6 (rH C cs):=by
 refine zV ["books","stay","some"] F λ_ _ _ _ _ _ _ _ Q nd hr h=>?_;obtain⟨told,c,g,ss,rfl,f,b,e,ws,q⟩:=h;obtain⟨j,cg,a,g1⟩:=id e;refine xS (yo m (hr.mono (by decide)) (by rfl) (zi (zg 0 rfl (zi (zg 1 rfl (zi (EvL.d (yz ["hindrance","some"] [none,some 2] (.one 0) (zF (EvL.d ?_))))))))));and_intros;refine⟨told,c,g,rfl,f,b,j,cg,a,g1,?_⟩;and_intros;rw[<-yq];refine⟨?_,?_⟩
 ·have l:=wB c g told 0;rw[<-yq]at l;have o:told.length*(5*(g-c).toNat)<=4*70:=yi1 b (by omega);omega
 refine yL (λh=>inH ss h) hD (λh i=>⟨_,rfl,λ_ _ _ _ _ k=>?_,λ_ _ _ _ _ _ k=>?_⟩) ?_
 ·refine xX (zE1 hr.units (zg 0 rfl (zg 1 rfl ⟨_,rfl,oC (wx c g told 0 h i),pO ws,ud h,pK ss,rV h,?_⟩)));rw[zb2];and_intros;exact k
 ·and_intros;exact k
 rw[z29];and_intros;exact⟨told,c,g,ue told c g ss,rfl,f,b,e,kO told c g ss b a,q⟩
end
end K64
namespace L2
open PySem PySem.Spec PyProof.Rows
theorem zF1 {X:Cx}{α:Ev}{E:yi}{rest:List Stmt}{pos p j:Pos}(i y:Nat){x n:Str}{ds:List PyData}(K:X.N.Nodup)(hy:α[y]?=some (some (.own ds)))(hne:y≠i)(h:SvS X ((α.set y none).set i (some (.own ds))) rest E)(hn:X.N[y]?=some n:=by rfl)(J:Vis X.env.scope n:=by first|exact Or.inl rfl|exact Or.inr (Or.inl rfl)|exact Or.inr (Or.inr rfl))
  (f:(n == ("__debug__":Str))=false:=by decide) (g:(n == ("__classdict__":Str))=false:=by decide) (hi:X.N[i]?=some x:=by rfl) (v:Loc X.env.scope x:=by first|exact Or.inl rfl|exact Or.inr rfl)
  (C:swapsWith (.Name n p) (some (.Name x j)) pos.line X.env=pure false:=by rfl) (hf:X.fn x=true\/X.env.scope.names.lookup x=some .local:=by first|exact .inl rfl|exact .inr rfl|assumption):SvS X α (.Assign [.Name x j] (.Name n p) pos::rest) E:=λF σ H D m r=>by
 refine⟨_,zv (uU K hi v (yB hn J f g) C hf) zB,?_⟩;obtain⟨l,xs,o,_⟩:=m.own y ds hy;refine⟨.ref l,o,h F _ H D ?_ r⟩;have G:=m.len;have key:∀{k:Nat} {a:A},((α.set y none).set i (some (.own ds)))[k]?=some (some a)->k<α.length/\((k=i/\a=.own ds)\/(k≠i/\k≠y/\α[k]?=some (some a))):=λ{k a} e=>by
  have hk:=(zY0.mp e).1;rw[z28,z28]at hk;rcases zz e with⟨rfl,z⟩|⟨c,b⟩
  ·cases z;exact⟨hk,.inl ⟨rfl,rfl⟩⟩
  ·rcases zz b with⟨_,z⟩|⟨z3,I⟩
   ·cases z
   ·exact⟨hk,.inr ⟨λw=>c w.symm,λw=>z3 w.symm,I⟩⟩
 refine m.reidx (λk=>if k=i then y else k) (by rw[z28,z28,z28];exact G) (λk a s e1 d=>?_) λk M a L e t z=>?_
 ·obtain⟨hk,⟨rfl,rfl⟩|⟨hne,u,e⟩⟩:=key e1
  ·rw[if_pos rfl];rw[z81 (by omega)]at d;cases d;exact⟨hy,o⟩
  ·rw[if_neg hne];rw[z53 (λw=>hne w.symm)]at d;exact⟨e,d⟩
 ·rcases(key e).2 with⟨c,_⟩|⟨c,B,_⟩
  ·rcases(key t).2 with⟨b,_⟩|⟨b,q,_⟩
   ·omega
   ·rw[if_pos c,if_neg b]at z;exact absurd z.symm q
  ·rcases(key t).2 with⟨b,_⟩|⟨b,q,_⟩
   ·rw[if_neg c,if_pos b]at z;exact absurd z B
   ·rw[if_neg c,if_neg b]at z;exact z
end L2
namespace K64
open PySem PySem.Spec PyProof.Rows L2
abbrev zk8 :Stmt:=top 23
noncomputable def zR (told:List (List PyData))(c g:Int)(a:List H3):Bool:=!tr (wX (yQ a) told c g)
def wo (h:H3)(a:List H3):List H3:=a.filter λx=>!decide (x=h)
noncomputable def tM (held:List H3->Bool)(left:List H3):List H3->List H3
 |[]=>left
 |h::r=>tM held (if held (wo h left)then wo h left else left) r
noncomputable def qR (told:List (List PyData))(c g:Int):List H3:=tM (zR told c g) (zo 0 told c g) (zo 0 told c g)
theorem uY (held:List H3->Bool)(h:H3):∀(r:List H3) (left:List H3),tM held left (r++[h])=(if held (wo h (tM held left r))then wo h (tM held left r)else tM held left r)
 |[],left=>rfl
 |x::r,left=>by
  show tM held _ (r++[h])=_;rw[uY held h r];rfl
theorem wX.mono {fo a:Fo}{told:List (List PyData)}{c g:Int}(h:∀n x z,fo n x z=true->a n x z=true)(t:wX a told c g):wX fo told c g:=by
 have lt:∀n ds b e,vv a n ds b e=true->vv fo n ds b e=true:=by
  intro n ds b e q;have im:∀n x z,a n x z=false->fo n x z=false:=λn x z e=>by
   cases w:fo n x z with
   |false=>rfl
   |true=>rw[h n x z w]at e;cases e
  unfold vv at q ⊢;simp only[z07,ya3,yc4,yg6,yf4]at q ⊢;obtain⟨⟨d,f⟩,m,j,l⟩:=q;refine⟨⟨im _ _ _ d,im _ _ _ f⟩,m.imp (im _ _ _) id,j.imp (im _ _ _) id,λz hz=>?_⟩;have:=l z hz;rw[Bool.not_eq_true]at this ⊢;exact im _ _ _ this
 induction t with
 |nil=>exact .nil
 |snoc _ e i=>
  obtain⟨e1,n,ds,k,o⟩:=e;exact .snoc i ⟨e1,n,ds,k,lt _ _ _ _ o⟩
theorem uQ {told:List (List PyData)}{c g:Int}{b a:List H3}(h:∀x∈b,x∈a)(e:zR told c g b=true):zR told c g a=true:=by
 unfold zR at e ⊢;rw[ya3]at e ⊢;refine zk2 λt=>?_;rw[lW (wX.mono (λn x z q=>wq.mpr (h _ (wq.mp q))) t)]at e;cases e
theorem rX {h x:H3}{a:List H3}:x∈wo h a↔x∈a/\x≠h:=by
 unfold wo;rw[z39];simp
structure qG (hf:List H3->Bool)(all left:List H3)(i:Nat):Prop where
 sub:∃p:H3->Bool,left=all.filter p
 held:hf left=true
 need:∀h∈all.take i,h∈left->hf (wo h left)=false
theorem za3 {held:List H3->Bool}(mono:∀{a b:List H3},(∀x∈a,x∈b)->held a=true->held b=true){all left:List H3}{i:Nat}{h:H3}(hi:all[i]?=some h)(w:qG held all left i):qG held all (if held (wo h left)then wo h left else left) (i+1):=by
 obtain⟨⟨p,g⟩,k,f⟩:=w;have nf:∀{a b:List H3},(∀x∈a,x∈b)->held b=false->held a=false:=λ{a b} s e=>by
  cases q:held a with
  |false=>rfl
  |true=>rw[mono s q]at e;cases e
 by_cases c:held (wo h left)=true
 ·rw[if_pos c];refine⟨⟨λx=>p x&&!decide (x=h),?_⟩,c,λx d hm=>?_⟩
  ·rw[g];unfold wo;rw[List.filter_filter]
   congr 1;funext x;rw[Bool.and_comm]
  ·rw[z43,hi]at d;obtain⟨m1,m2⟩:=rX.mp hm;rcases z05.mp d with d|d
   ·exact nf (λy hy=>by
     obtain⟨j,l⟩:=rX.mp hy;exact rX.mpr ⟨(rX.mp j).1,l⟩) (f x d m1)
   ·have:x=h:=by simpa using d
    exact absurd this m2
 ·rw[if_neg c];refine⟨⟨p,g⟩,k,λx d hm=>?_⟩;rw[z43,hi]at d;rcases z05.mp d with d|d
  ·exact f x d hm
  ·have:x=h:=by simpa using d
   rw[this];cases q:held (wo h left)with
   |false=>rfl
   |true=>exact absurd q c
theorem oE {held:List H3->Bool}(mono:∀{a b:List H3},(∀x∈a,x∈b)->held a=true->held b=true)(all:List H3)(h0:held all=true):∀i,i<=all.length->qG held all (tM held all (all.take i)) i
 |0,_=>⟨⟨λ_=>true,by rw[List.take_zero];show all=_;rw[List.filter_eq_self.mpr λ_ _=>rfl]⟩,h0,λh hm=>by simp at hm⟩
 |i+1,hi=>by
  have c:=oE mono all h0 i (by omega);have e:all[i]?=some all[i]:=zY1 (by omega);have:=za3 mono e c;rw[z43,e];show qG held all (tM held all (all.take i++[all[i]])) (i+1);rw[uY];exact this
theorem zG5 {told:List (List PyData)}{c g:Int}(h0:zR told c g (zo 0 told c g)=true):qG (zR told c g) (zo 0 told c g) (qR told c g) (zo 0 told c g).length:=by
 have:=oE (held:=zR told c g) (λ{a b}=>uQ) (zo 0 told c g) h0 _ (zY3 _);rw[z40]at this;exact this
def zt5 (C:Addr)(cs:Cs):Ph:=λas Q=>∃(told:List (List PyData)) (c g:Int),as=[.dat (xH C cs told),.dat (.tuple [.int c,.int g])]/\(∀ds∈told,Rules ds)/\told.length<=4/\SB c g/\zR told c g (zo 0 told c g)=true/\Q (.own ((qR told c g).map hD))
def aL (C:Addr)(cs:Cs)(a:Addr):List A->(A->Prop)->(PyData->Prop)->Prop:=λas _ q=>∃(told:List (List PyData)) (c g:Int),as=[.dat (xH C cs told),.dat (.tuple [.int c,.int g])]/\(∀ds∈told,Rules ds)/\told.length<=4/\SB c g/\zR told c g (zo 0 told c g)=false/\q (xD0 a)
theorem jg :∀(a:List H3),wm (a.map hD)=true
 |[]=>rfl
 |h::r=>by
  show(noL (hD h)&&wm (r.map hD))=true;rw[jg r];rfl
theorem rq {told:List (List PyData)}{c g:Int}(b:told.length<=4)(h:g<=c+14):(zo 0 told c g).length<=300:=by
 have a:=wB c g told 0;rw[<-yq,zX8]at a;have d:told.length*(5*(g-c).toNat)<=4*70:=yi1 b (by omega);omega
theorem uv {h:H3}(w:h.2.1∈words):SeqAt.shaped (hD h)=true:=by
 have a:=oC w;have b:=rV h;unfold SeqAt.shaped;rw[a,z26 (by omega:(hD h).depth<=64)];rfl
section
variable {P:Program}{w:World}{K:PySem.W.Frag}{mg:Str->Option Value}{base:Heap}{cs:Cs}
theorem zh0 {C:Addr}(F:FnD K mg "why" zk8 ["books","stay"])(nb:NbT mg)(E:Cal P w K mg base "hindrances" 4 (rp C cs))(G:Cal P w K mg base "is_held_off" 5 (vD C cs)):Cal P w K mg base "why" 6 (zt5 C cs):=by
 refine zV ["books","stay","left","hindrance","fewer"] F λ_ _ H _ _ _ _ _ Q nd hr h=>?_;obtain⟨told,c,g,rfl,l,f,j,u,q⟩:=h;obtain⟨v,cg,e,g1⟩:=id j;have hlen:=rq (told:=told) f e;refine yH 2 nd ?_;and_intros;refine⟨told,c,g,rfl,l,f,v,cg,e,g1,_,rfl,?_⟩;rw[<-yq];refine wN (vF 2 rfl ?_);and_intros;refine⟨told,c,g,zo 0 told c g,rfl,l,f,j,hlen,?_⟩;rw[show(!tr (wX (yQ (zo 0 told c g)) told c g))=true from u];refine⟨_,rfl,?_⟩;refine tS rfl (zx ?_);refine yh (.one 3) (zF (EvL.d (pJ 2 rfl (oJ (by rfl) nb.list (zg 2 rfl ⟨_,rfl,jg _,_,rfl,?_⟩)))));have B:∀i,i<=(zo 0 told c g).length->qG (zR told c g) (zo 0 told c g) (tM (zR told c g) (zo 0 told c g) ((zo 0 told c g).take i)) i:=oE (λ{a b}=>uQ) _ u;refine zK (λi α=>∃(m n:Option A),α=[some (.dat (xH C cs told)),some (.dat (.tuple [.int c,.int g])),some (.own ((tM (zR told c g) (zo 0 told c g) ((zo 0 told c g).take i)).map hD)),m,n]) ⟨none,none,rfl⟩ ?_ ?_
 ·rintro i x α t ⟨m,n,rfl⟩;rw[zY7,zZ3]at t;obtain⟨h,o,rfl⟩:=t;have hi:=(zY0.mp o).1;have w:=B i (by omega);have sn:=uY (zR told c g) h ((zo 0 told c g).take i) (zo 0 told c g);rw[<-take_snoc o]at sn;rw[sn];generalize tM (zR told c g) (zo 0 told c g) ((zo 0 told c g).take i)=left at w;obtain⟨⟨p,s⟩,_,_⟩:=w;have wl:Wd left:=λy hy=>by rw[s]at hy;exact wx c g told 0 y (z39.mp hy).1
  have D:left.length<=300:=by rw[s];exact zY8 (z69 _ _) hlen
  have z:=wx c g told 0 h (z24 o);refine⟨_,rfl,?_⟩;refine zH5 2 4 ["other","hindrance"] [none,some 3] (.one 0) rfl (zF (zg 2 rfl ⟨_,rfl,?_⟩));refine⟨by rw[zX8];omega,?_⟩;refine yL (λy=>!decide (y=h)) hD (λy hy=>⟨_,rfl,λ_ _ _ _ _ k=>?_,λ_ _ _ _ _ _ k=>?_⟩) ?_
  ·refine xX ?_;and_intros;refine eqk (uv (wl y hy)) (uv z) (ud y) (ud h) ?_;rw[js];exact k
  ·and_intros;exact k
  rw[z29];refine⟨jg _,?_⟩;show SvS _ (List.set _ 4 (some (.own ((wo h left).map hD)))) _ _;have lw:(wo h left).length<=300:=zY8 (z69 _ _) D;refine wN (vF 4 rfl ?_);and_intros;refine⟨told,c,g,wo h left,rfl,l,f,j,lw,?_⟩;refine⟨_,rfl,?_⟩;show SvS _ _ (if zR told c g (wo h left)=true then _ else _) _;refine yr (λr=>?_) (λr=>?_)
  ·rw[if_pos r];refine zF1 2 4 nd rfl (by decide) (zx (zx ?_));exact⟨_,_,rfl⟩
  ·rw[if_neg (by rw[r];decide)];and_intros;exact⟨_,_,rfl⟩
 ·rintro α ⟨m,n,rfl⟩;rw[zX8,z40];exact wJ 2 rfl q
theorem zz4 :zI ((["books","stay","left","hindrance","fewer"]:List Str)++[("":Str)]) ["books","stay"] (zd zk8):=.o
theorem dD {C i:Addr}(F:FnD K mg "why" zk8 ["books","stay"])(nb:NbT mg)(l:Cal P w K mg base "hindrances" 4 (rp C cs))(o:Cal P w K mg base "is_held_off" 5 (vD C cs))(k:zB8 K mg "Had" i):zi0 P w K mg base "why" 6 (aL C cs i):=by
 obtain⟨f,fd,F,hm,hb⟩:=F;refine zU5 F hm hb zz4 (by decide) (λas Q q h=>?_) (λcdv u outer s H E as Q q r xe hr h t=>?_)
 ·obtain⟨told,c,g,rfl,_⟩:=h;rfl
 ·obtain⟨told,c,g,rfl,e,b,d,p,n⟩:=h;obtain⟨m,cg,a,g1⟩:=id d;have nd:=zz4.nd;have hlen:=rq (told:=told) b a;refine yH 2 nd (xY l (hr.mono (by decide)) (by rfl) (zi (zg 0 rfl (zi (zg 1 rfl (zq ⟨told,c,g,rfl,e,b,m,cg,a,g1,_,rfl,?_⟩))))));rw[<-yq];refine wN (vF 2 rfl (aT (dP (yo o (hr.mono (by decide)) (by rfl) (zi (zg 0 rfl (zi (zg 1 rfl (zi (zg 2 rfl (zq ⟨told,c,g,zo 0 told c g,rfl,e,b,d,hlen,?_⟩)))))))))));rw[show(!tr (wX (yQ (zo 0 told c g)) told c g))=false from p];refine⟨_,rfl,?_⟩;refine sg rfl ?_;exact gY (j:=5) t rfl k (by rfl) rfl (leX.nil rfl) (wZ n)
end
abbrev zQ1 :Stmt:=top 56
abbrev sLW :Stmt:=top 57
abbrev bD :Stmt:=top 58
abbrev ze6 :Stmt:=top 59
abbrev zw1 :Stmt:=top 60
def xN (Bs:List (List PyData)):Prop:=∀ds∈Bs,zM ds
def upH (Bs:List (List PyData))(x y:Int):Prop:=x<y/\∃(n:Nat) (ds:List PyData),Bs[n]?=some ds/\sF ds x y=true
structure WOk (Bs:List (List PyData))(c:Int)(k:Nat)(W:List L2.Way):Prop where
 len:W.length<=k+1
 bd:∀w∈W,c<=w.1/\w.1<=c+k/\yF W w.1=some w.2/\(w.1=c\/∃u∈W,∃n,u.1<w.1/\w.2.2=some (u.1,w.1,n))
 iff:∀d,d<=c+k->(Way (upH Bs) c d↔∃w∈W,w.1=d)
noncomputable def bw (Bs:List (List PyData))(c g:Int):Str:=if tr (Way (upH Bs) c g)=true then "had" else "off"
def zt2 (C:Addr)(cs:Cs):Ph:=λas Q=>∃(Bs:List (List PyData)) (W:List L2.Way) (day:Int),as=[.dat (xH C cs Bs),.dat (yT (W.map tQ)),.dat (.int day)]/\xN Bs/\Bs.length<=8/\W.length<=20/\(∀w∈W,vP w.1 day/\yF W w.1=some w.2)/\
 ∀L:List (Int×Part),(∀p∈L,∃w∈W,∃n,p.2=(w.1,day,n)/\upH Bs w.1 day)->(∀w∈W,upH Bs w.1 day->L≠[])->Q (.own (L.map vX))
def zP1 (C:Addr)(cs:Cs):Ph:=λas Q=>∃(Bs:List (List PyData)) (c g:Int),as=[.dat (xH C cs Bs),.dat (.tuple [.int c,.int g])]/\xN Bs/\Bs.length<=8/\vP c g/\∀W,WOk Bs c (g-c).toNat W->Q (.dat (yT (W.map tQ)))
def jV :Ph:=λas Q=>∃(Bs:List (List PyData)) (W:List L2.Way) (c g:Int),as=[.dat (yT (W.map tQ)),.dat (.tuple [.int c,.int g])]/\WOk Bs c (g-c).toNat W/\vP c g/\(∃w∈W,w.1=g)/\∀ps:List Part,Q (.own (ps.map wU))
def jz :Ph:=λas Q=>∃(Bs:List (List PyData)) (W:List L2.Way) (c g:Int),as=[.dat (yT (W.map tQ)),.dat (.tuple [.int c,.int g])]/\WOk Bs c (g-c).toNat W/\vP c g/\∀zs:List Int,Q (.own (zs.map .int))
def cX (C:Addr)(cs:Cs):Ph:=λas Q=>∃(Bs:List (List PyData)) (c g:Int),as=[.dat (xH C cs Bs),.dat (.tuple [.int c,.int g])]/\xN Bs/\Bs.length<=8/\vP c g/\∀S r,Q (.deep (.tuple (.str (bw Bs c g)::r)) S)
theorem vf {α:Type}{f:α->PyData}(h:∀x,noL (f x)=true)(l:List α):wm (l.map f)=true:=by
 induction l with
 |nil=>rfl
 |cons x l a=>rw[z02,wm,h x,a]<;>rfl
theorem sZ {α:Type}{f:α->PyData}(h:∀x,(f x).hasDict=false)(l:List α):PyData.hasDictAll (l.map f)=false:=by
 induction l with
 |nil=>rfl
 |cons x l a=>rw[z02,PyData.hasDictAll,h x,a]<;>rfl
theorem zc0 {W:List L2.Way}{u:L2.Way}{d:Int}(h:u.1≠d):yF (W++[u]) d=yF W d:=by
 unfold yF;rw[List.find?_append,List.find?_cons_of_neg (by simpa using h)];simp
theorem WOk.none {Bs:List (List PyData)}{c:Int}{k:Nat}{W:List L2.Way}(h:WOk Bs c k W)(no:∀w∈W,¬upH Bs w.1 (c+1+k)):WOk Bs c (k+1) W:=by
 refine⟨by have:=h.len;omega,λw hw=>?_,λd hd=>?_⟩
 ·obtain⟨a,f,b⟩:=h.bd w hw;exact⟨a,by omega,b⟩
 ·by_cases e:d<=c+k
  ·exact h.iff d e
  have e:d=c+1+k:=by omega
  subst e;refine⟨λt=>?_,λ⟨w,hw,e⟩=>by have:=(h.bd w hw).2.1;omega⟩;rcases t.last with e|⟨y,t,u⟩
  ·omega
  ·obtain⟨w,hw,rfl⟩:=(h.iff y (by have:=u.1;omega)).mp t;exact absurd u (no w hw)
theorem WOk.add {Bs:List (List PyData)}{c x:Int}{k n:Nat}{W:List L2.Way}{w:L2.Way}(h:WOk Bs c k W)(hw:w∈W)(u:upH Bs w.1 (c+1+k)):WOk Bs c (k+1) (W++[(c+1+k,x,some (w.1,c+1+k,n))]):=by
 have nf:∀v∈W,v.1≠c+1+k:=λv a=>by have:=(h.bd v a).2.1;omega
 refine⟨by have:=h.len;simp;omega,λv a=>?_,λd hd=>?_⟩
 ·rcases z05.mp a with a|a
  ·obtain⟨b,j,i,f⟩:=h.bd v a;refine⟨b,by omega,(zc0 (nf v a).symm).trans i,f.imp id ?_⟩;rintro⟨u,g,z⟩;exact⟨u,z52 _ g,z⟩
  ·rw[zZ1.mp a];have:=(h.bd w hw).2.1;refine⟨by show c<=c+1+k;omega,by show c+1+k<=_;omega,?_,.inr ⟨w,z52 _ hw,n,by show w.1<c+1+k;omega,rfl⟩⟩;unfold yF;rw[List.find?_append,yb1.mpr λv a=>by simpa using nf v a];simp
 ·by_cases e:d<=c+k
  ·rw[h.iff d e];refine⟨λ⟨v,a,z⟩=>⟨v,z52 _ a,z⟩,λ⟨v,a,z⟩=>?_⟩;rcases z05.mp a with a|a
   ·exact⟨v,a,z⟩
   ·rw[zZ1.mp a]at z;have z:c+1+k=d:=z;omega
  ·have e:c+1+k=d:=by omega
   exact⟨λ_=>⟨_,z25 _ (zZ1.mpr rfl),e⟩,λ_=>by subst e;exact .snoc ((h.iff w.1 (h.bd w hw).2.1).mpr ⟨w,hw,rfl⟩) u⟩
section
variable {P:Program}{w:World}{K:PySem.W.Frag}{mg:Str->Option Value}{base:Heap}{cs:Cs}
theorem zl7 {C:Addr}(F:FnD K mg "arrivals" zQ1 ["books","ways","day"])(nb:NbT mg)(H:Cal P w K mg base "cost_or_none" 6 (zy5 C cs)):Cal P w K mg base "arrivals" 7 (zt2 C cs):=by
 refine zV ["books","ways","day","found","begin","number","book","coins"] F λ_ _ G _ _ _ _ _ Q nd hr h=>?_;obtain⟨Bs,W,day,rfl,y,bl,wl,ws,q⟩:=h;and_intros;refine yh (.one 4) (zj0 (zg 1 rfl ⟨_,rfl,?_⟩));refine zK (λi α=>∃(L:List (Int×Part)) (o b f c:Option A),L.length<=i*8/\(∀p∈L,∃w∈W,∃n,p.2=(w.1,day,n)/\upH Bs w.1 day)/\(∀w∈W.take i,upH Bs w.1 day->L≠[])/\α=[some (.dat (xH C cs Bs)),some (.dat (yT (W.map tQ))),some (.dat (.int day)),some (.own (L.map vX)),o,b,f,c]) ⟨[],none,none,none,none,by simp,by simp,by simp,rfl⟩ ?_ ?_
 ·rintro i d α hd ⟨L,o,b,f,c,l,l1,l2,rfl⟩;rw[zY7,zY7,Option.map_map,zZ3]at hd;obtain⟨u,r,rfl⟩:=hd;have t:=z24 r;have hi:=(zY0.mp r).1;refine⟨_,rfl,yh (.many [5,6]) (vJ (by rfl) nb.enumerate (zg 0 rfl ⟨_,rfl,?_⟩))⟩;refine zK (λj α=>∃(L:List (Int×Part)) (b f c:Option A),L.length<=i*8+j/\(∀p∈L,∃w∈W,∃n,p.2=(w.1,day,n)/\upH Bs w.1 day)/\(∀w∈W.take i,upH Bs w.1 day->L≠[])/\(∀n ds,n<j->Bs[n]?=some ds->sF ds u.1 day=true->L≠[])/\α=[some (.dat (xH C cs Bs)),some (.dat (yT (W.map tQ))),some (.dat (.int day)),some (.own (L.map vX)),some (.dat (.int u.1)),b,f,c]) ⟨L,b,f,c,l,l1,l2,λn _ h=>absurd h (Nat.not_lt_zero n),rfl⟩ ?_ ?_
  ·rintro j d α hd ⟨L,b,f,c,l,l1,l2,l3,rfl⟩;obtain⟨e,he,rfl⟩:=xv hd;rw[zY7,zZ3]at he;obtain⟨ds,a,rfl⟩:=he;have E:=(zY0.mp a).1;obtain⟨v,B⟩:=ws u t;refine⟨_,rfl,zX 7 nd ?_⟩;and_intros;refine⟨ds,u.1,day,rfl,y ds (z24 a),v,λm x=>?_,λm=>?_⟩<;>and_intros
   ·refine uD (k:=.inl u.1) rfl (by rw[yY,B]<;>rfl) ?_;and_intros;refine⟨by rw[zX8];omega,?_⟩;and_intros;refine⟨L++[(u.2.1+x,(u.1,day,j))],_,_,_,by simp;omega,λp g=>?_,by simp,by simp,by rw[z55,yh0]<;>rfl⟩;rcases z05.mp g with g|g
    ·exact l1 p g
    ·rw[zZ1.mp g];exact⟨u,t,j,rfl,v.2.1,j,ds,a,m⟩
   ·refine⟨L,_,_,_,by omega,l1,l2,λn ds' hn hb z=>?_,rfl⟩;by_cases e:n=j
    ·subst e;rw[a]at hb;cases hb;rw[m]at z;cases z
    ·exact l3 n ds' (by omega) hb z
  ·rintro α ⟨L,b,f,c,l,l1,l2,l3,rfl⟩;rw[wc,zX8]at l l3;and_intros;refine⟨L,_,_,_,_,by omega,l1,λw hw z=>?_,rfl⟩;rw[z43,r]at hw;rcases z05.mp hw with hw|hw
   ·exact l2 w hw z
   ·obtain⟨_,n,ds,s,D⟩:=z;rw[Option.toList,zZ1]at hw;subst hw;exact l3 n ds (zY0.mp s).1 s D
 ·rintro α ⟨L,o,b,f,c,l,l1,l2,rfl⟩;rw[zX8,zX8,z40]at l2;and_intros;exact q L l1 l2
theorem zG0 {C:Addr}(F:FnD K mg "least_ways" sLW ["books","stay"])(nb:NbT mg)(E:Cal P w K mg base "arrivals" 7 (zt2 C cs)):Cal P w K mg base "least_ways" 8 (zP1 C cs):=by
 refine zV ["books","stay","ways","day","found"] F λ_ _ G _ _ _ _ _ Q nd hr h=>?_;obtain⟨Bs,c,g,rfl,s,bl,⟨D,cg,g1,g2⟩,q⟩:=h;refine zm7 2 nd (di ?_);and_intros;refine⟨.inl c,rfl,?_⟩;refine yh (.one 3) (vC (by rfl) nb.range ?_);and_intros;refine⟨⟨by omega,by omega,by omega,by omega⟩,?_⟩;refine zK (λi α=>∃(W:List L2.Way) (b f:Option A),WOk Bs c i W/\α=[some (.dat (xH C cs Bs)),some (.dat (.tuple [.int c,.int g])),some (.dic (W.map tQ)),b,f]) ⟨[(c,0,none)],none,none,⟨by simp,?_,λd hd=>?_⟩,rfl⟩ ?_ ?_
 ·intro w hw;rw[zZ1.mp hw];exact⟨yf8 _,by simp,by simp[yF],.inl rfl⟩
 ·simp only[zZ1,exists_eq_left];refine⟨λt=>?_,λe=>e▸.nil⟩
  induction t with
  |nil=>rfl
  |snoc t u y=>
   have:=u.1;have:=y (by omega);simp at hd this;omega
 ·rintro i d α hd ⟨W,b,f,a,rfl⟩;rw[zY7,zZ3]at hd;obtain⟨z,hz,rfl⟩:=hd;have hi:=(zY0.mp hz).1;rw[zl]at hi;rw[yA hi]at hz;cases hz;have wl:=a.len;refine⟨_,rfl,zX 4 nd (EvL.d (aj 2 rfl ?_))⟩;and_intros;refine⟨Bs,W,c+1+(i:Int),rfl,s,bl,by omega,λu o=>?_,λL l1 l2=>⟨_,rfl,vf (λ_=>rfl) _,?_⟩⟩
  ·obtain⟨B,H,l,_⟩:=a.bd u o;exact⟨⟨by omega,by omega,by omega,by omega⟩,l⟩
  and_intros;cases L with
  |nil=>
   and_intros;exact⟨W,_,_,a.none λw hw u=>l2 w hw u rfl,rfl⟩
  |cons p r=>
   refine sg rfl ?_;refine zf4 2 hr.one rfl (zm8 rfl hr.few (by rfl) nb.min ?_);and_intros;refine⟨by simp,sZ (λ_=>rfl) _,ze4 _,λd hd=>?_,?_⟩
   ·obtain⟨p,_,rfl⟩:=z47.mp hd;exact⟨rfl,by simp[vX,wU,PyData.depth,PyData.depthAll]⟩
   rw[zp6 (by simp)];have k:=aQ (ds:=p::r) (by simp);generalize zH0 (p::r)=m at k;obtain⟨x,m⟩:=m;obtain⟨v,j,n,e,u⟩:=l1 _ k;have e:m=(v.1,c+1+(i:Int),n):=e;subst e;and_intros;refine⟨.inl (c+1+(i:Int)),rfl,by rw[zX8];omega,?_⟩;and_intros;have fn:yF W (c+1+(i:Int))=none:=by
    unfold yF;rw[yb1.mpr λv j=>by have:=(a.bd v j).2.1;simp;omega]<;>rfl
   exact⟨_,_,_,a.add (x:=x) (n:=n) j u,by rw[<-bK fn]<;>rfl⟩
 ·rintro α ⟨W,b,f,a,rfl⟩;rw[zX8,zl,show(g+1-(c+1)).toNat=(g-c).toNat by omega]at a;refine zG9 2 rfl ?_;and_intros;exact q W a
theorem zk0 (F:FnD K mg "cut_of" bD ["ways","stay"])(nb:NbT mg):Cal P w K mg base "cut_of" 1 jV:=by
 refine zV ["ways","stay","backwards","day","part"] F λ_ _ t _ _ _ _ _ Q nd hr h=>?_;obtain⟨Bs,W,c,g,rfl,j,⟨s,cg,g1,g2⟩,⟨v,r,e⟩,q⟩:=h;and_intros;refine zf1 ye1 (λm α=>∃(i:Option A) (u:L2.Way) (acc:List Part),α=[some (.dat (yT (W.map tQ))),some (.dat (.tuple [.int c,.int g])),some (.own (acc.map wU)),some (.dat (.int u.1)),i]/\u∈W/\u.1-c<=m/\acc.length+m<=14) 14 ⟨none,v,[],by rw[e]<;>rfl,r,by omega,by simp⟩ ?_;rintro m α ⟨i,u,acc,rfl,o,f,al⟩;obtain⟨lo,hi,p,h⟩:=j.bd u o;and_intros;refine ui (λa=>?_) (λa=>?_)
 ·have a:u.1≠c:=by simpa using a
  obtain⟨m,rfl⟩:∃k,m=k+1:=⟨m-1,by omega⟩;rcases h with e|⟨y,hy,n,b,e⟩
  ·exact absurd e a
  obtain⟨d,x,l⟩:=u;obtain rfl:l=some (y.1,d,n):=e;have b:y.1<d:=b;have f:d-c<=_:=f;and_intros;refine uD (k:=.inl d) rfl (by rw[yY,show yF W d=_ from p]<;>rfl) ?_;and_intros;refine⟨by rw[zX8];omega,?_⟩;and_intros;exact⟨m,by omega,_,y,acc++[(y.1,d,n)],by rw[z55]<;>rfl,hy,by omega,by simp;omega⟩
 ·refine xp (pJ 2 rfl (kW rfl (by rfl) nb.list (by rfl) nb.reversed ?_));and_intros;rw[<-List.map_reverse];exact⟨vf (λ_=>rfl) _,q _⟩
theorem gJ (F:FnD K mg "paper_of" ze6 ["ways","stay"])(nb:NbT mg):Cal P w K mg base "paper_of" 1 jz:=by
 refine zV ["ways","stay","highest","heights"] F λ_ _ _ _ _ _ _ _ Q nd hr h=>?_;obtain⟨Bs,W,c,g,rfl,a,⟨f,cg,g1,g2⟩,q⟩:=h;have wl:=a.len;refine zX 2 nd (jW rfl (by rfl) nb.max (EvL.d (yz ["way"] [none] (.one 0) (zm4 ?_))));and_intros;refine⟨by rw[zX8,zX8];omega,?_⟩;rw[z54];refine zS (λu=>.int u.2.1) (λu i=>⟨_,rfl,λ_ _ _ _ _ k=>?_⟩) ?_
 ·and_intros;exact k
 refine⟨zd3 W,by unfold zd3;rw[z54]<;>rfl,λe=>?_,?_⟩
 ·obtain⟨w,hw,_⟩:=(a.iff c (by omega)).mp .nil;rw[List.map_eq_nil_iff.mp e]at hw;cases hw
 generalize hn:(g-c).toNat=n;refine tf 3 ["day","ways","highest"] [none,some 0,some 2] (.one 0) (vC (by rfl) nb.range ?_);and_intros;refine⟨⟨by omega,by omega,by omega,by omega⟩,by rw[zX8,zl];omega,?_⟩;rw[show(g+1-c).toNat=n+1 by omega];refine zS (λd=>.int (hW W d)) (λd hd=>⟨_,rfl,λ_ _ _ _ _ k=>?_⟩) ?_
 ·and_intros;refine nR (k:=.inl d) rfl ?_;rw[yY];cases e:yF W d with
  |none=>
   and_intros;rw[zn2 e]at k;exact k
  |some p=>
   and_intros;refine uD (k:=.inl d) rfl (by rw[yY,e]<;>rfl) ?_;and_intros;rw[zm2 (x:=p.1) (l:=p.2) e]at k;exact k
 refine rg 3 rfl ?_;refine xp (yz ["lower","higher"] [none,none] (.many [0,1]) (zH8 (by rfl) nb.zip ?_));and_intros;have b:(zw c (n+1)).map (λd=>PyData.int (hW W d))=((zw c (n+1)).map (hW W)).map PyData.int:=by rw[z54]<;>rfl
 rw[z29,b,aY];refine⟨by rw[zX8,zl];omega,?_⟩;refine zS (λd=>.int (hW W (d+1)-hW W d)) (λd hd=>⟨_,rfl,λ_ _ _ _ _ k=>?_⟩) ?_
 ·and_intros;exact k
 ·have:=q ((zw c n).map λd=>hW W (d+1)-hW W d);rw[z54]at this;exact this
theorem dB {C:Addr}(F:FnD K mg "best" zw1 ["books","stay"])(nb:NbT mg)(n:Cal P w K mg base "least_ways" 8 (zP1 C cs))(m:Cal P w K mg base "cut_of" 1 jV)(j:Cal P w K mg base "paper_of" 1 jz):Cal P w K mg base "best" 9 (cX C cs):=by
 refine zV ["books","stay","ways"] F λ_ _ _ _ _ _ _ _ Q nd hr h=>?_;obtain⟨Bs,c,g,rfl,f,bl,b,q⟩:=h;obtain⟨i,cg,g1,g2⟩:=id b;and_intros;refine⟨Bs,c,g,rfl,f,bl,b,λW a=>?_⟩;and_intros;refine nR (k:=.inl g) rfl ?_;rw[yY];have hg:=a.iff g (by omega);unfold bw at q;cases e:yF W g with
 |none=>
  rw[zk2 λt=>by
   obtain⟨w,hw,rfl⟩:=hg.mp t;rw[(a.bd w hw).2.2.1]at e;cases e]at q
  refine sg rfl ?_;refine iU (aq (wz (kJ (wZ ⟨rfl,?_⟩))));refine wz (pU (bO rfl (by rfl) nb.list (zg 2 rfl ⟨_,rfl,?_⟩)));rw[z54];exact⟨vf (λ_=>rfl) _,iQ ⟨z35 rfl,λS=>q S _⟩⟩
 |some p=>
  have d:∃w∈W,w.1=g:=⟨_,find_some (x:=p.1) (l:=p.2) e,rfl⟩;rw[lW (hg.mpr d)]at q;refine tS rfl (zx ?_);refine iU (aq (wz (kJ (wZ ⟨rfl,?_⟩))));refine wz (kJ ?_);and_intros;refine uD (k:=.inl g) rfl (by rw[yY,e]<;>rfl) ?_;and_intros;refine⟨rfl,wz (pU ?_)⟩;and_intros;refine⟨Bs,_,c,g,rfl,a,b,d,λps=>⟨_,rfl,vf (λ_=>rfl) _,wz (pU ?_)⟩⟩;and_intros;exact⟨Bs,_,c,g,rfl,a,b,λzs=>⟨_,rfl,vf (λ_=>rfl) _,iQ ⟨z35 rfl,λS=>q S _⟩⟩⟩
end
end K64
namespace L2
open PySem PySem.Spec PyProof.Rows
section
variable {X:Cx}{α:Ev}{a b:Expr}{rest:List Expr}{pos:Pos}{ta tb:TE}{Q:PyData->Prop}
theorem zA0 (ha:PE X a ta)(hb:PE X (.BoolOp .Or (b::rest) pos) tb):PE X (.BoolOp .Or (a::b::rest) pos) (λσ H Q=>ta σ H λx H1=>∃k,zB2 X.K x H1 k/\if k=true then Q x H1 else tb σ H1 Q):=by
 intro pins s σ H Q I h;refine BoolOp_or (thn (ha pins s σ H _ I h) λv s1 ⟨x,H1,i,g,e⟩=>?_);obtain⟨k,j,e⟩:=e;refine thn (dG pins s1 σ H1 x v (λc d=>c=k/\d=H1) i g ⟨k,j,rfl,rfl⟩) λc s2 ⟨d,f,e1,l⟩=>?_;subst e1 l;cases c with
 |true=>exact⟨x,d,f,g,e⟩
 |false=>exact hb pins s2 σ d Q f e
theorem cN (h:EvD X α a λx=>∃k,zD8 x=some k/\if k=true then Q x else EvD X α (.BoolOp .Or (b::rest) pos) Q):EvD X α (.BoolOp .Or (a::b::rest) pos) Q:=λF σ H R m k=>by
 refine⟨_,zA0 zf zf,?_⟩;refine h F σ H _ m λx l H1 o t1 k1 g=>?_;obtain⟨c,hb,q⟩:=o;refine⟨c,?_,?_⟩
 ·cases g with
  |non=>cases hb;rfl
  |bl z=>cases hb;rfl
  |int i=>cases hb;rfl
  |str s=>cases hb
  |lst e f=>cases hb;exact .inl ⟨_,SqL.of (zb e).2,by rw[f.isEmpty]⟩
  |tup e f=>cases hb;exact .inr (.inl ⟨_,SqT.of (zb e).2,by rw[f.isEmpty]⟩)
  |ins _ _=>cases hb
  |dk _ _=>cases hb
  |dt _ _=>cases hb
  |xc _ _ _=>cases hb
  |xn _=>cases hb
 ·cases c with
  |true=>exact k x l H1 q t1 k1 g
  |false=>exact q F σ H1 R (m.kz k1 t1) λd v n p t2 k2 j=>k d v n p t2 (k1.trans k2) j
end
end L2
namespace K64
open PySem PySem.Spec PyProof.Rows L2
theorem bf {p:Int->Bool}{lo hi z:Int}:z∈sel p lo hi↔(lo<=z/\z<hi)/\p z=true:=by
 unfold sel;rw[z39,yV]
 constructor
 ·rintro⟨b,a⟩;exact⟨by omega,a⟩
 ·rintro⟨b,a⟩;exact⟨by omega,a⟩
theorem zH7 {n m:Int}{x y:Str}{z:Int}{l:List Int}:(m,x,z)∈l.map (th n y)↔m=n/\x=y/\z∈l:=by
 rw[z47]
 constructor
 ·rintro⟨a,ha,e⟩;unfold th at e;injection e with e1 b;injection b with b c;subst e1 b c;exact⟨rfl,rfl,ha⟩
 ·rintro⟨rfl,rfl,h⟩;exact⟨z,h,rfl⟩
theorem yj {n m:Int}{ds:List PyData}{c g:Int}{x:Str}{z:Int}:(m,x,z)∈xK n ds c g↔m=n/\((x="price"/\(c<=z/\z<g)/\pPr ds z=true)\/(x="come"/\(c<=z/\z<g)/\pF ds "come" z=true)\/(x="go"/\(c+1<=z/\z<g+1)/\pF ds "go" z=true)\/(x="least"/\(c<=z/\z<g)/\pLe ds z=true)\/(x="most"/\(c<=z/\z<g)/\pMo ds g z=true)):=by
 unfold xK;simp only[z05,zH7,bf]
 constructor
 ·rintro((((⟨a,b⟩|⟨a,b⟩)|⟨a,b⟩)|⟨a,b⟩)|⟨a,b⟩)
  ·exact⟨a,.inl b⟩
  ·exact⟨a,.inr (.inl b)⟩
  ·exact⟨a,.inr (.inr (.inl b))⟩
  ·exact⟨a,.inr (.inr (.inr (.inl b)))⟩
  ·exact⟨a,.inr (.inr (.inr (.inr b)))⟩
 ·rintro⟨a,b|b|b|b|b⟩
  ·exact .inl (.inl (.inl (.inl ⟨a,b⟩)))
  ·exact .inl (.inl (.inl (.inr ⟨a,b⟩)))
  ·exact .inl (.inl (.inr ⟨a,b⟩))
  ·exact .inl (.inr ⟨a,b⟩)
  ·exact .inr ⟨a,b⟩
theorem ub {c g:Int}{h:H3}:∀{told:List (List PyData)}{m:Nat},h∈zo m told c g↔∃k ds,told[k]?=some ds/\h∈xK ((m+k:Nat):Int) ds c g
 |[],m=>by simp[zo]
 |d::r,m=>by
  show h∈xK m d c g++zo (m+1) r c g↔_;rw[z05,ub (told:=r) (m:=m+1)]
  constructor
  ·rintro(h|⟨k,ds,a,b⟩)
   ·exact⟨0,d,rfl,h⟩
   ·exact⟨k+1,ds,a,by rw[show m+(k+1)=m+1+k by omega];exact b⟩
  ·rintro⟨k,ds,a,b⟩;cases k with
   |zero=>cases a;exact .inl b
   |succ k=>exact .inr ⟨k,ds,a,by rw[show m+1+k=m+(k+1) by omega];exact b⟩
theorem sU {told:List (List PyData)}{c g:Int}{n:Nat}{ds:List PyData}{x:Str}{z:Int}(hn:told[n]?=some ds):((n:Int),x,z)∈zo 0 told c g↔((n:Int),x,z)∈xK n ds c g:=by
 rw[ub]
 constructor
 ·rintro⟨k,ds',b,a⟩;have e:=(yj.mp a).1;have:k=n:=by omega
  subst this;rw[hn]at b;cases b;rw[yh0]at a;exact a
 ·intro h;exact⟨n,ds,hn,by rw[yh0];exact h⟩
structure Lets (fo:Fo)(n:Nat)(ds ds':List PyData)(c g:Int):Prop where
 fp:∀z,c<=z->z<g->fo n "price" z=false->xl (zj ds' "price" z)=false
 fc:∀z,c<=z->z<g->fo n "come" z=false->isF (zj ds' "come" z)=false
 fg:∀z,c<z->z<=g->fo n "go" z=false->isF (zj ds' "go" z)=false
 fl:∀z,c<=z->z<g->intOf (zj ds' "least" z)<=1\/(fo n "least" z=true/\intOf (zj ds' "least" z)=leD ds z)
 fm:∀z,c<=z->z<g->g-z<=intOf (zj ds' "most" z)\/(fo n "most" z=true/\intOf (zj ds' "most" z)=moD ds z)
theorem Lets.had {fo:Fo}{n:Nat}{ds ds':List PyData}{c g b e:Int}(h:Lets fo n ds ds' c g)(i:c<=b)(be:b<e)(p:e<=g)(q:vv fo n ds b e=true):sF ds' b e=true:=by
 unfold vv at q;simp only[z07,ya3,yc4,yg6,yf4,z91]at q;obtain⟨⟨k,l⟩,d,a,o⟩:=q;refine pk.mpr ⟨λz m r=>h.fp z (by omega) (by omega) ?_,h.fc b i (by omega) k,h.fg e (by omega) p l,?_,?_⟩
 ·have:=o z (yV.mpr ⟨m,by omega⟩);simpa using this
 ·rcases h.fl b i (by omega)with w|⟨f,j⟩
  ·omega
  ·rw[j];rcases d with d|d
   ·rw[f]at d;cases d
   ·exact d
 ·rcases h.fm b i (by omega)with w|⟨f,j⟩
  ·omega
  ·rw[j];rcases a with a|a
   ·rw[f]at a;cases a
   ·exact a
theorem zb3 {fo:Fo}{told Bs:List (List PyData)}{c g:Int}(d:Bs.length=told.length)(h:∀n ds ds',told[n]?=some ds->Bs[n]?=some ds'->Lets fo n ds ds' c g){y:Int}(t:wX fo told c y)(b:y<=g):Way (upH Bs) c y:=by
 induction t with
 |nil=>exact .nil
 |@snoc x y w e ih=>
  obtain⟨a,n,ds,e1,f⟩:=e;have hn:n<Bs.length:=by rw[d];exact(zY0.mp e1).1
  have hb:=zY1 hn;exact .snoc (ih (by omega)) ⟨a,n,_,hb,(h n ds _ e1 hb).had w.le a b f⟩
theorem zc8 {told:List (List PyData)}{c g:Int}{a:List H3}(h:zR told c g a=false):wX (yQ a) told c g:=by
 unfold zR at h;rw[Bool.not_eq_false']at h;exact sH.mp h
def lwD (x:Str):PyData:=if x="price" then .int 5 else if x="come" then .bool true else if x="go" then .bool true else if x="least" then .int 1 else .int 14
structure vo (n:Int)(L:List H3)(ds ds':List PyData):Prop where
 t1:∀{x z},(n,x,z)∈L->zj ds' x z=lwD x
 t2:∀{x z},¬(n,x,z)∈L->zj ds' x z=zj ds x z
theorem gq {told:List (List PyData)}{c g:Int}{n:Nat}{ds ds':List PyData}{F L:List H3}(hn:told[n]?=some ds)(f:g<=c+14)(hF:∀h∈zo 0 told c g,h∈F\/h∈L)(T:vo n L ds ds'):Lets (yQ F) n ds ds' c g:=by
 have go:∀{x z},((n:Int),x,z)∈xK n ds c g->¬((n:Int),x,z)∈L->yQ F n x z=true:=λ{x z} d i=>by
  rcases hF _ ((sU hn).mpr d)with w|w
  ·exact wq.mpr w
  ·exact absurd w i
 refine⟨λz a b e=>?_,λz a b e=>?_,λz a b e=>?_,λz a b=>?_,λz a b=>?_⟩
 ·by_cases q:((n:Int),("price":Str),z)∈L
  ·rw[T.t1 q];rfl
  ·rw[T.t2 q];cases w:xl (zj ds "price" z)with
   |false=>rfl
   |true=>rw[go (yj.mpr ⟨rfl,.inl ⟨rfl,⟨a,b⟩,w⟩⟩) q]at e;cases e
 ·by_cases q:((n:Int),("come":Str),z)∈L
  ·rw[T.t1 q];rfl
  ·rw[T.t2 q];cases w:isF (zj ds "come" z)with
   |false=>rfl
   |true=>rw[go (yj.mpr ⟨rfl,.inr (.inl ⟨rfl,⟨a,b⟩,w⟩)⟩) q]at e;cases e
 ·by_cases q:((n:Int),("go":Str),z)∈L
  ·rw[T.t1 q];rfl
  ·rw[T.t2 q];cases w:isF (zj ds "go" z)with
   |false=>rfl
   |true=>rw[go (yj.mpr ⟨rfl,.inr (.inr (.inl ⟨rfl,⟨by omega,by omega⟩,w⟩))⟩) q]at e;cases e
 ·by_cases q:((n:Int),("least":Str),z)∈L
  ·rw[T.t1 q];exact .inl (by decide)
  ·rw[T.t2 q];by_cases w:1<intOf (zj ds "least" z)
   ·exact .inr ⟨go (yj.mpr ⟨rfl,.inr (.inr (.inr (.inl ⟨rfl,⟨a,b⟩,z26 w⟩)))⟩) q,rfl⟩
   ·exact .inl (by omega)
 ·by_cases q:((n:Int),("most":Str),z)∈L
  ·rw[T.t1 q];refine .inl ?_;show g-z<=14;omega
  ·rw[T.t2 q];by_cases w:intOf (zj ds "most" z)<g-z
   ·exact .inr ⟨go (yj.mpr ⟨rfl,.inr (.inr (.inr (.inr ⟨rfl,⟨a,b⟩,z26 w⟩)))⟩) q,rfl⟩
   ·exact .inl (by omega)
theorem zn3 {told:List (List PyData)}{c g b e:Int}{n:Nat}{ds ds':List PyData}{W L:List H3}(hn:told[n]?=some ds)(hW:∀h∈W,h∈zo 0 told c g/\¬h∈L)(T:vo n L ds ds')(h:sF ds' b e=true):vv (yQ W) n ds b e=true:=by
 obtain⟨m,d,l,j,f⟩:=pk.mp h;have a:∀{x z},yQ W n x z=true->zj ds' x z=zj ds x z/\((n:Int),x,z)∈xK n ds c g:=λ{x z} q=>by
  obtain⟨m1,m2⟩:=hW _ (wq.mp q);exact⟨T.t2 m2,(sU hn).mp m1⟩
 have nf:∀{x z},(zj ds' x z=zj ds x z->((n:Int),x,z)∈xK n ds c g->False)->yQ W n x z=false:=λ{x z} k=>by
  cases q:yQ W n x z with
  |false=>rfl
  |true=>exact(k (a q).1 (a q).2).elim
 unfold vv;simp only[z07,ya3,yc4,yg6,yf4,z91];refine⟨⟨nf λt hm=>?_,nf λt hm=>?_⟩,?_,?_,λz hz=>?_⟩
 ·rw[t]at d;rcases(yj.mp hm).2 with⟨w,_⟩|⟨_,_,w⟩|⟨w,_⟩|⟨w,_⟩|⟨w,_⟩
  ·exact absurd w (by decide)
  ·rw[show pF ds "come" b=false from d]at w;cases w
  ·exact absurd w (by decide)
  ·exact absurd w (by decide)
  ·exact absurd w (by decide)
 ·rw[t]at l;rcases(yj.mp hm).2 with⟨w,_⟩|⟨w,_⟩|⟨_,_,w⟩|⟨w,_⟩|⟨w,_⟩
  ·exact absurd w (by decide)
  ·exact absurd w (by decide)
  ·rw[show pF ds "go" e=false from l]at w;cases w
  ·exact absurd w (by decide)
  ·exact absurd w (by decide)
 ·cases q:yQ W n "least" b with
  |false=>exact .inl rfl
  |true=>rw[(a q).1]at j;exact .inr j
 ·cases q:yQ W n "most" b with
  |false=>exact .inl rfl
  |true=>rw[(a q).1]at f;exact .inr f
 ·have hz:=yV.mp hz;rw[nf λt hm=>?_]
  ·decide
  have i:=m z hz.1 (by omega);rw[t]at i;rcases(yj.mp hm).2 with⟨_,_,w⟩|⟨w,_⟩|⟨w,_⟩|⟨w,_⟩|⟨w,_⟩
  ·rw[show pPr ds z=false from i]at w;cases w
  ·exact absurd w (by decide)
  ·exact absurd w (by decide)
  ·exact absurd w (by decide)
  ·exact absurd w (by decide)
theorem vo.nil {n:Int}{ds:List PyData}:vo n [] ds ds:=⟨λh=>(nomatch h),λ_=>rfl⟩
theorem zd4 {told Bs:List (List PyData)}{c g:Int}{W L:List H3}(d:Bs.length=told.length)(hW:∀h∈W,h∈zo 0 told c g/\¬h∈L)(T:∀n ds ds',told[n]?=some ds->Bs[n]?=some ds'->vo (n:Nat) L ds ds')(h:zR told c g W=true):bw Bs c g="off":=by
 unfold bw;rw[zk2 λt=>?_]
 ·rfl
 unfold zR at h;rw[lW]at h
 ·cases h
 clear h
 suffices ∀{b},Way (upH Bs) c b->wX (yQ W) told c b from this t
 intro b t
 induction t with
 |nil=>exact .nil
 |snoc _ e a=>
  obtain⟨i,n,ds',e1,f⟩:=e;have hn:n<told.length:=by rw[<-d];exact(zY0.mp e1).1
  have hb:=zY1 hn;exact .snoc a ⟨i,n,_,hb,zn3 hb hW (T n _ _ hb e1) f⟩
theorem nJ {told Bs:List (List PyData)}{c g:Int}{F L:List H3}(d:Bs.length=told.length)(a:g<=c+14)(hF:∀h∈zo 0 told c g,h∈F\/h∈L)(T:∀n ds ds',told[n]?=some ds->Bs[n]?=some ds'->vo (n:Nat) L ds ds')(t:zR told c g F=false):bw Bs c g="had":=by
 unfold bw;rw[lW (zb3 d (λn ds ds' b e=>gq b a hF (T n ds ds' b e)) (zc8 t) (yf8 _))];rfl
theorem qH (ds a:List PyData)(x:Str)(day:Int):zj (ds++a) x day=if a.any (uV x day)=true then zj a x day else zj ds x day:=by
 unfold zj;rw[List.reverse_append,List.find?_append];cases h:a.reverse.find? (uV x day)with
 |some d=>
  have:a.any (uV x day)=true:=z93.mpr ⟨d,ya6.mp (ya4 h),yh4 h⟩;rw[if_pos this];rfl
 |none=>
  have:¬a.any (uV x day)=true:=λz=>by
   obtain⟨d,hd,b⟩:=z93.mp z;have:=yb1.mp h d (ya6.mpr hd);exact this b
  rw[if_neg this];rfl
theorem zc4 {told:List (List PyData)}{c g:Int}{ds:List PyData}(h:told[0]?=some ds)(cg:c<g):zR told c g []=false:=by
 unfold zR;rw[lW (.snoc .nil ⟨cg,0,ds,h,by unfold vv;simp[yQ]⟩)];rfl
theorem ze8 {told:List (List PyData)}{c g:Int}{ss:List H3}(h:∀x∈ss,x∈zo 0 told c g):yQ (ue told c g ss)=yQ ss:=by
 funext n x z
 rw[z99,wq,wq];unfold ue;rw[z39,jC];exact⟨λy=>y.2,λy=>⟨h _ y,y⟩⟩
theorem mW {told:List (List PyData)}{c g:Int}{ss:List H3}(h:∀x∈ss,x∈zo 0 told c g):(!tr (wX (yQ (ue told c g ss)) told c g))=zR told c g ss:=by rw[ze8 h];rfl
def lrD (h:H3):PyData:=.tuple [.str h.2.1,.int h.2.2,.int h.2.2,lwD h.2.1]
def xf (n:Int)(L:List H3):List PyData:=(L.filter λh=>decide (h.1=n)).map lrD
theorem kC (h:H3)(x:Str)(z:Int):uV x z (lrD h)=decide (h.2.1=x/\h.2.2=z):=by
 show(decide (h.2.1=x)&&(decide (h.2.2<=z)&&decide (z<=h.2.2)))=_;rw[z99];simp only[z07,z50]
 constructor
 ·rintro⟨a,b,c⟩;exact⟨a,by omega⟩
 ·rintro⟨a,b⟩;exact⟨a,by omega,by omega⟩
theorem rA {n:Int}{L:List H3}{x:Str}{z:Int}:(xf n L).any (uV x z)=true↔(n,x,z)∈L:=by
 unfold xf;rw[yh6,z93]
 constructor
 ·rintro⟨h,hm,e⟩;obtain⟨m1,m2⟩:=z39.mp hm;have e:uV x z (lrD h)=true:=e;rw[kC]at e;obtain⟨e1,c⟩:=z66 e;have m2:=z66 m2;obtain⟨a,b,d⟩:=h;simp only at e1 c m2;subst e1 c m2;exact m1
 ·intro hm;refine⟨(n,x,z),z39.mpr ⟨hm,z26 rfl⟩,?_⟩;show uV x z (lrD (n,x,z))=true;rw[kC];exact z26 ⟨rfl,rfl⟩
theorem ju {ds:List PyData}{n:Int}{L:List H3}{x:Str}{z:Int}(h:(n,x,z)∈L):zj (ds++xf n L) x z=lwD x:=by
 rw[qH,if_pos (rA.mpr h)];unfold zj;cases q:(xf n L).reverse.find? (uV x z)with
 |none=>
  obtain⟨d,hd,b⟩:=z93.mp (rA.mpr h);exact absurd b (yb1.mp q d (ya6.mpr hd))
 |some d=>
  have a:=yh4 q;obtain⟨h',_,rfl⟩:=z47.mp (ya6.mp (ya4 q));rw[kC]at a;obtain⟨e1,_⟩:=z66 a;show lwD h'.2.1=lwD x;rw[e1]
theorem pN {ds:List PyData}{n:Int}{L:List H3}{x:Str}{z:Int}(h:¬(n,x,z)∈L):zj (ds++xf n L) x z=zj ds x z:=by rw[qH,if_neg λq=>h (rA.mp q)]
def yy (L:List H3)(told:List (List PyData)):List (List PyData):=told.zipIdx.map λp=>p.1++xf (p.2:Nat) L
theorem gr {L:List H3}{told:List (List PyData)}{n:Nat}{ds ds':List PyData}(h:told[n]?=some ds)(h':(yy L told)[n]?=some ds'):ds'=ds++xf n L:=by
 unfold yy at h';rw[zY7,List.getElem?_zipIdx,h]at h';simp at h';exact h'.symm
theorem bp {L:List H3}{told:List (List PyData)}{n:Nat}{ds ds':List PyData}(h:told[n]?=some ds)(h':(yy L told)[n]?=some ds'):vo n L ds ds':=by
 rw[gr h h'];exact⟨ju,pN⟩
theorem zD7 (l:List H3)(j:Int)(x:H3):∃a:List H3,uq (l.map hD) j (hD x)=a.map hD/\a.length=l.length+1/\(∀y∈a,y∈l\/y=x)/\∀y∈l,y∈a:=by
 unfold uq;generalize (if j<0 then(j+((l.map hD).length:Int)).toNat else min j.toNat (l.map hD).length)=k;refine⟨l.take k++x::l.drop k,by rw[z55,z02,yi6,List.map_drop],?_,λy hy=>?_,λy hy=>?_⟩
 ·rw[z04,z00,z46,yc3];omega
 ·rcases z05.mp hy with h|h
  ·exact .inl (yc8 h)
  ·rcases zY2.mp h with h|h
   ·exact .inr h
   ·exact .inl (List.mem_of_mem_drop h)
 ·rw[<-List.take_append_drop k l]at hy;rcases z05.mp hy with h|h
  ·exact z05.mpr (.inl h)
  ·exact z05.mpr (.inr (zY5 _ h))
abbrev iA :Stmt:=top 71
abbrev mL :Stmt:=top 72
abbrev jQ :Stmt:=top 73
def cU (told:List (List PyData)):PyData:=.list (told.map .list)
def w5 :List Str:=["price","come","go","least","most"]
def W5 (L:List H3):Prop:=∀h∈L,h.2.1∈w5/\0<=h.2.2/\h.2.2<=1000000
theorem bR {x:Str}(h:x∈w5):x∈words:=by
 simp only[w5,zY2,zZ8,z33]at h;rcases h with rfl|rfl|rfl|rfl|rfl<;>simp[words]
theorem bM {told:List (List PyData)}{c g:Int}(b:0<=c)(g1:g<=1000000):W5 (zo 0 told c g):=λh hm=>by
 obtain⟨k,ds,_,a⟩:=ub.mp hm;obtain⟨n,x,z⟩:=h;rcases(yj.mp a).2 with⟨rfl,w,_⟩|⟨rfl,w,_⟩|⟨rfl,w,_⟩|⟨rfl,w,_⟩|⟨rfl,w,_⟩<;>exact⟨by simp[w5],by show 0<=z;omega,by show z<=1000000;omega⟩
theorem zQ6 {h:H3}(w:h.2.1∈w5)(d:0<=h.2.2)(e:h.2.2<=1000000):wF (lrD h):=by
 obtain⟨n,x,z⟩:=h;have b:(1000001:Int)<big:=by decide
 have c:-big<(0:Int):=by decide
 have w:x∈w5:=w;have a:zQ (.str x) (lwD x)=true/\zY 5000 (lwD x)/\(lwD x).depth<=1:=by
  simp only[w5,zY2,zZ8,z33]at w;rcases w with rfl|rfl|rfl|rfl|rfl
  ·exact⟨by decide +kernel,(xZ (i:=5) (by decide) (by decide)).mono (by decide),zZ6 _⟩
  ·exact⟨by decide +kernel,(zY.bool true).mono (by decide),zZ6 _⟩
  ·exact⟨by decide +kernel,(zY.bool true).mono (by decide),zZ6 _⟩
  ·exact⟨by decide +kernel,(xZ (i:=1) (by decide) (by decide)).mono (by decide),zZ6 _⟩
  ·exact⟨by decide +kernel,(xZ (i:=14) (by decide) (by decide)).mono (by decide),zZ6 _⟩
 exact wF.of (bR w) d (yf8 _) e a.1 a.2.1 a.2.2
theorem zk3 {n:Int}{L:List H3}(w:W5 L):zM (xf n L):=λd hd=>by
 obtain⟨h,hm,rfl⟩:=z47.mp hd;obtain⟨c,b,a⟩:=w h (z39.mp hm).1;exact zQ6 c b a
theorem mS (n:Int)(L:List H3):(xf n L).length<=L.length:=by
 unfold xf;rw[zX8];exact z69 _ _
theorem gG (n:Int)(L:List H3)(h:H3):xf n (L++[h])=xf n L++(if h.1=n then [lrD h]else []):=by
 unfold xf;rw[List.filter_append,z55];by_cases e:h.1=n
 ·simp[e]
 ·simp[e]
def nV (C:Addr)(cs:Cs):Ph:=λas Q=>∃(told:List (List PyData)) (c g:Int),as=[.dat (xH C cs told),.dat (.tuple [.int c,.int g])]/\(∀ds∈told,Rules ds)/\told.length<=4/\SB c g/\((zR told c g (zo 0 told c g)=true/\Q (.own ((qR told c g).map hD)))\/(zR told c g (zo 0 told c g)=false/\Q (.dat .none)))
def qN :Ph:=λas Q=>∃(n:Int) (L:List H3),as=[.dat (.int n),.dat (.list (L.map hD))]/\W5 L/\L.length<=300/\Q (.own (xf n L))
def mR (C:Addr)(cs:Cs):Ph:=λas Q=>∃(told:List (List PyData)) (L:List H3),as=[.dat (cU told),.dat (.list (L.map hD))]/\xN told/\(∀ds∈told,ds.length<=24)/\told≠[]/\told.length<=4/\W5 L/\L.length<=300/\(Q (.dat .none))/\(xN (yy L told)->Q (.own ((yy L told).map (yw C cs))))
section
variable {P:Program}{w:World}{K:PySem.W.Frag}{mg:Str->Option Value}{base:Heap}{cs:Cs}
theorem kY {C b:Addr}(F:FnD K mg "_law_reason" iA ["_law_books","_law_stay_here"])(l:mg "Had"=some (.ref b))(p:XB K b b)(o:Cal P w K mg base "why" 6 (zt5 C cs))(CX:zi0 P w K mg base "why" 6 (aL C cs b)):Cal P w K mg base "_law_reason" 7 (nV C cs):=by
 refine zV ((["_law_books","_law_stay_here","_law_found"]:List Str)++[("":Str)]) F λ_ _ _ _ _ _ _ _ Q nd hr h=>?_;obtain⟨told,c,g,rfl,m,k,i,hq⟩:=h;have lx:leX [some (.dat (xH C cs told)),some (.dat (.tuple [.int c,.int g])),none,none] [some (.dat (xH C cs told)),some (.dat (.tuple [.int c,.int g])),none,none]:=leX.cons (.inr ⟨rfl,λa e=>by cases e;trivial⟩) (leX.cons (.inr ⟨rfl,λa e=>by cases e;trivial⟩) (leX.cons (.inl rfl) (leX.cons (.inl rfl) leX.nil')));rcases hq with⟨f,q⟩|⟨f,q⟩
 ·refine aJ 3 [some (.dat (xH C cs told)),some (.dat (.tuple [.int c,.int g])),none,none] (λ_=>False) rfl rfl rfl lx (by rfl) l (λ_ z=>z.elim) (λpins xe r n=>?_) (λpins a d z=>z.elim);refine yH 2 nd (xY o (hr.mono (by decide)) (by rfl) (zi (zg 0 rfl (zi (zg 1 rfl (zq ⟨told,c,g,rfl,m,k,i,f,_,rfl,zx ?_⟩))))));exact wJ 2 rfl q
 ·refine aJ 3 [some (.dat (xH C cs told)),some (.dat (.tuple [.int c,.int g])),none,none] (λd=>d=xD0 b) rfl rfl rfl lx (by rfl) l (λd e=>⟨b,.inr e,p⟩) (λpins xe r n=>?_) (λpins a d e=>?_)
  ·exact yH 2 nd (zl4 (j:=3) n rfl (leX.cons (.inr ⟨rfl,λa e=>by cases e;trivial⟩) (leX.cons (.inr ⟨rfl,λa e=>by cases e;trivial⟩) (leX.cons (.inl rfl) (leX.cons (.inl rfl) leX.nil')))) CX (hr.mono (by decide)) (by rfl) (zi (zg 0 rfl (zi (zg 1 rfl (zq ⟨told,c,g,rfl,m,k,i,f,rfl⟩))))))
  ·exact xS (pS q)
def dM :List (PyData×PyData):=[(.str "price",.int 5),(.str "come",.bool true),(.str "go",.bool true),(.str "least",.int 1),(.str "most",.int 14)]
theorem fV {x:Str}(h:x∈w5):∃v,sD dM x=some (lwD x)/\scV (lwD x)=some v:=by
 simp only[w5,zY2,zZ8,z33]at h;rcases h with rfl|rfl|rfl|rfl|rfl<;>exact⟨_,by with_unfolding_all rfl,by with_unfolding_all rfl⟩
theorem nY (F:FnD K mg "_law_lifting" mL ["_law_number","_law_rows"])(nb:NbT mg):Cal P w K mg base "_law_lifting" 1 qN:=by
 refine zV ["_law_number","_law_rows","_law_rules_here","_law_other","_law_word","_law_day_here","_law_worth_here"] F λ_ _ m _ _ _ _ _ Q nd hr h=>?_;obtain⟨n,L,rfl,l,o,q⟩:=h;refine yH 2 nd ?_;and_intros;refine yh (.many [3,4,5]) (zF (zg 1 rfl ⟨_,rfl,?_⟩));refine zK (λi α=>∃(d f c b:Option A),α=[some (.dat (.int n)),some (.dat (.list (L.map hD))),some (.own (xf n (L.take i))),d,f,c,b]) ⟨none,none,none,none,rfl⟩ ?_ ?_
 ·rintro i x α k ⟨d,f,c,b,rfl⟩;rw[zY7,zZ3]at k;obtain⟨h,g,rfl⟩:=k;have hi:=(zY0.mp g).1;have sn:=gG n (L.take i) h;rw[<-take_snoc g]at sn;rw[sn];have l1:=mS n (L.take i);rw[z46]at l1;obtain⟨v,e,j⟩:=fV (l h (z24 g)).1;refine⟨_,rfl,?_⟩;and_intros;refine yr (λa=>?_) (λa=>?_)
  ·have a:h.1=n:=z66 a;rw[if_pos a];refine zX 6 nd (bJ (D:=dM) (by rfl) (by rfl) (by decide +kernel) (zg 4 rfl ⟨h.2.1,lwD h.2.1,v,rfl,e,j,?_⟩));and_intros;refine⟨by omega,?_⟩;and_intros;exact⟨_,_,_,_,rfl⟩
  ·have a:¬h.1=n:=yi4 a;rw[if_neg a,z45];and_intros;exact⟨_,_,_,_,rfl⟩
 ·rintro α ⟨d,f,c,b,rfl⟩;rw[zX8,z40];exact wJ 2 rfl q
theorem kK {C:Addr}(F:FnD K mg "_law_lifted" jQ ["_law_told","_law_rows"])(nb:NbT mg)(u:Cal P w K mg base "_law_lifting" 1 qN)(m:ur P w K mg base "Book" 9 [] (qc C cs)):Cal P w K mg base "_law_lifted" 11 (mR C cs):=by
 refine zV ["_law_told","_law_rows","_law_books"] F λ_ _ _ _ _ _ _ _ Q nd hr h=>?_;obtain⟨told,L,rfl,q,i,f,t,l,r,n,o⟩:=h;have bl:∀ds∈yy L told,zM ds:=λds a=>by
  obtain⟨p,c,rfl⟩:=z47.mp a;intro d hd;rcases z05.mp hd with z|z
  ·exact q p.1 (yd1 c) d z
  ·exact zk3 l d z
 have b:(yy L told).length=told.length:=by unfold yy;simp
 refine tf 2 ["_law_number","_law_rules_here","_law_rows"] [none,none,some 1] (.many [0,1]) (vJ (by rfl) nb.enumerate (zg 0 rfl ⟨_,rfl,?_⟩));rw[uR];refine⟨by rw[zX8,List.length_zipIdx];omega,?_⟩;refine zS (λp=>.list (p.1++xf (p.2:Nat) L)) (λp c=>⟨_,rfl,λ_ _ _ _ _ k=>?_⟩) ?_
 ·refine EvL.d (uf (zg 1 rfl ?_));and_intros;refine⟨(p.2:Nat),L,rfl,l,r,?_⟩;have s:=i p.1 (yd1 c);have j:=mS (p.2:Nat) L;exact⟨_,_,rfl,rfl,by omega,k⟩
 rw[z29,show told.zipIdx.map (λp=>PyData.list (p.1++xf (p.2:Nat) L))=(yy L told).map .list by unfold yy;rw[z54]<;>rfl];refine rg 2 rfl ?_;refine wN (jX (jW rfl (by rfl) nb.max (EvL.d (yz ["_law_rules_here"] [none] (.one 0) (zF (zg 2 rfl ⟨_,rfl,?_⟩))))));refine⟨by rw[zX8];omega,?_⟩;refine zS (λds=>.int (ds.length:Nat)) (λds a=>⟨_,rfl,λ_ _ _ _ _ k=>?_⟩) ?_
 ·and_intros;exact k
 rw[z29];refine⟨(yy L told).map λds=>((ds.length:Nat):Int),by rw[z54]<;>rfl,λe=>f ?_,?_⟩
 ·have:=congrArg List.length e;rw[zX8,b]at this;exact List.eq_nil_of_length_eq_zero this
 and_intros;refine yr (λ_=>?_) (λj=>?_)
 ·and_intros;exact n
 ·have j:=yi4 j;have g:∀ds∈yy L told,ds.length<=24:=λds a=>by
   have:=zo3 (zs:=(yy L told).map λds=>((ds.length:Nat):Int)) (z47.mpr ⟨ds,a,rfl⟩);omega
  refine zx ?_;refine xp (yz ["_law_rules_here"] [none] (.one 0) (zF (zg 2 rfl ⟨_,rfl,?_⟩)));refine⟨by rw[zX8];omega,?_⟩;refine zS (yw C cs) (λds a=>⟨_,rfl,λ_ _ _ _ _ k=>?_⟩) ?_
  ·exact EvN.d (pC m hr (by rfl) (zi (zg 0 rfl (zq ⟨ds,.inl rfl,(bl ds a).rules,g ds a,k⟩))))
  rw[z29];exact o bl
end
abbrev pW :Stmt:=top 74
def Told (told:List (List PyData)):Prop:=∀ds∈told,zM ds/\ds.length<=6
section
variable {P:Program}{w:World}{K:PySem.W.Frag}{mg:Str->Option Value}{base:Heap}{cs:Cs}
abbrev nLa :List Str:=["_law_script","_law_cell","_law_row","_law_day_here","_law_told","_law_stay_here","_law_books","_law_rows","_law_off","_law_found","_law_some","_law_held","_law_one","_law_now","_law_others"]
theorem zg5 :zI nLa ["_law_script"] (zd pW):=.o
theorem gh {X:Cx}{α α0:Ev}{E:yi}{b:List Stmt}(c:α0.length=α.length)(le:∀(i:Nat) a,α0[i]?=some (some a)->α[i]?=some (some a))(h:SvS X α0 b E):SvS X α b E:=λF σ H D m r=>h F σ H D (m.forget c le) r
theorem zr5 {α:Ev}{n:Nat}{a:A}(c:α.length=n+2):∀(i:Nat) b,((none:Option A)::some a::List.replicate n none)[i]?=some (some b)->(α.set 1 (some a))[i]?=some (some b):=by
 intro i b h;rcases i with _|_|i
 ·cases h
 ·rw[z81 (by omega)];exact h
 ·simp only[yf1,z61]at h;split at h<;>cases h
abbrev sL (C:Addr)(cs:Cs)(z a:Int)(told:List (List PyData))(c g:Int)(hd:Bool)(r:Ev):Ev:=none::some (.dat (.int z))::some .tape::some (.dat (.int a))::some (.dat (cU told))::some (.dat (.tuple [.int c,.int g]))::some (.dat (xH C cs told))::some (.dat (.list ((zo 0 told c g).map hD)))::some (.dat (.bool hd))::r
theorem zD0 {f C:Addr}{fd:FuncData}(F:Fun K "law" "law" pW f fd)(nb:NbT mg)(CB:Cal P w K mg base "_law_begin" 1 iB)(CD:Cal P w K mg base "_law_take" 1 xV)(CY:Cal P w K mg base "_law_day" 2 ba)(CR:Cal P w K mg base "_law_rules" 5 mP)(CS:Cal P w K mg base "_law_stay" 2 ir)
  (CH:Cal P w K mg base "hindrances" 4 (rp C cs)) (b2:Cal P w K mg base "best" 9 (cX C cs)) (a9:Cal P w K mg base "_law_reason" 7 (nV C cs)) (b1:Cal P w K mg base "holds_off" 6 (rH C cs)) (Z:Cal P w K mg base "_law_lifted" 11 (mR C cs)) (CK:ur P w K mg base "Book" 9 [] (qc C cs)):yv P w K mg base CX0 12 f fd ["_law_script"] (nO K):=by
 refine zU6 (k:=11) (j:=1) F zg5 rfl (Or.inl rfl) rfl (Or.inl rfl) (λcdv A' outer s H E zs hr lz=>?_);have nd:=zg5.nd;refine zK (λi α=>α.length=15) (by simp) ?_ ?_
 ·intro i d α hd hl;rw[zY7,zZ3]at hd;obtain⟨z,hz,rfl⟩:=hd;refine⟨_,rfl,?_⟩;refine gh (α0:=none::some (.dat (.int z))::List.replicate 13 none) (by rw[z28,hl];rfl) (zr5 hl) ?_;refine yH 2 zg5.nd (xY CB (hr.mono (by decide)) (by rfl) (zi (zg 1 rfl (zq ⟨z,rfl,λx y y0 y1=>⟨_,rfl,?_⟩⟩))));refine zJ6 2 rfl y0 y1 ?_;refine zX 3 zg5.nd (yo CY (hr.mono (by decide)) (by rfl) (yK 2 rfl (zq ⟨rfl,λM d0 d1=>?_⟩)));refine tf 4 ["_law_k","_law_row","_law_day_here"] [none,some 2,some 3] (.one 0) (uT (by rfl) nb.range (sJ (yc (yo CD (hr.mono (by decide)) (by rfl) (yK 2 rfl (zi (yc (zq ⟨_,rfl,by decide,by decide,λv h g=>⟨_,_,rfl,rfl,⟨_,rfl,by omega,by omega,⟨by rw[zX8,zl];omega,?_⟩⟩⟩⟩))))))));refine qE (λi acc=>∃told:List (List PyData),acc=told.map .list/\told.length=i/\Told told) ⟨[],rfl,rfl,λds hd=>by simp at hd⟩ ?_ ?_
  ·rintro i d acc hd ⟨told,rfl,rfl,V⟩;refine⟨_,rfl,λC s2 H2 fp=>kF ?_⟩;rw[if_pos rfl];intro C s2 H2 fp;refine EvL.d (xY CR (hr.mono (by decide)) (by rfl) (yK 1 rfl (zi (zg 2 rfl (zi (yc (zq ⟨M,5,rfl,d0,d1,by decide,by decide,λds ro ld=>⟨_,rfl,⟨told++[ds],by simp,by simp,λe he=>?_⟩⟩⟩)))))));rcases z05.mp he with q|q
   ·exact V e q
   ·rw[zZ1.mp q];exact⟨ro,by omega⟩
  rintro acc ⟨told,rfl,lt,V⟩;have B:told.length<=4:=by rw[lt,zX8,zl];omega
  have a0:1<=told.length:=by rw[lt,zX8,zl];omega
  clear lt;refine rg 4 rfl ?_;refine zX 5 nd (yo CS (hr.mono (by decide)) (by rfl) (yK 2 rfl (zi (zg 3 rfl (zq ⟨M,rfl,d0,d1,λc g O cg g1 g2=>?_⟩)))));refine yp (λα=>∃c g:Int,SB c g/\α=[none,some (.dat (.int z)),some .tape,some (.dat (.int M)),some (.dat (cU told)),some (.dat (.tuple [.int c,.int g])),none,none,none,none,none,none,none,none,none]) ?_ ?_
  ·have lm:((told.map PyData.list).length:Int)=told.length:=by rw[zX8]
   and_intros;rw[lm];refine ui (λh3=>?_) (λh3=>?_)
   ·and_intros;refine yr (λ_=>?_) (λ_=>?_)
    ·and_intros;refine⟨c,_,⟨O,?_,?_,?_⟩,rfl⟩<;>split<;>omega
    ·and_intros;exact⟨c,g,⟨O,cg,g1,g2⟩,rfl⟩
   ·and_intros;exact⟨c,g,⟨O,cg,g1,g2⟩,rfl⟩
  clear O cg g1 g2 c g;rintro α ⟨c,g,sb,rfl⟩;obtain⟨O,cg,N,g1⟩:=id sb;have rd:∀ds∈told,∀d∈ds,xC d=true:=λds o d hd=>((V ds o).1 d hd).rule;have rr:∀ds∈told,Rules ds:=λds o=>(V ds o).1.rules;refine tf 6 ["_law_rules_here"] [none] (.one 0) (zF (zg 4 rfl ⟨_,rfl,⟨by rw[zX8];omega,?_⟩⟩));refine zS (yw C cs) (λds o=>⟨_,rfl,λ_ _ _ _ _ k=>?_⟩) ?_
  ·exact EvN.d (pC CK (hr.mono (by decide)) (by rfl) (zi (zg 0 rfl (zq ⟨ds,.inl rfl,rr ds o,by have:=(V ds o).2;omega,k⟩))))
  rw[z29];refine rg 6 rfl ?_;have bo:xN told:=λds o=>(V ds o).1;have sB:vP c g:=⟨O,cg,N,g1⟩;have hlen:=rq (told:=told) B N;have wall:=wx c g told 0;have ln:∀X:Ev,X.length=15->(xg X).length=15:=λX h=>by unfold xg;rw[zX8];exact h
  refine zX 7 nd (EvL.d (xY CH (hr.mono (by decide)) (by rfl) (zi (zg 6 rfl (zi (zg 5 rfl (zq ⟨told,c,g,rfl,rr,B,O,cg,N,g1,⟨_,rfl,?_⟩⟩)))))));rw[<-yq];generalize hhd:zR told c g (zo 0 told c g)=hd;have Q:bw told c g=if hd=true then "off" else "had":=by
   have T:∀n ds ds',told[n]?=some ds->told[n]?=some ds'->vo (n:Nat) [] ds ds':=λn ds ds' h1 h2=>by rw[h1]at h2;cases h2;exact .nil
   cases hd with
   |true=>exact zd4 rfl (λh hm=>⟨hm,by simp⟩) T hhd
   |false=>exact nJ rfl N (λh hm=>.inl hm) T hhd
  refine yp (λα=>α=sL C cs z M told c g hd [none,none,none,none,none,none]) ?_ ?_
  ·and_intros;refine⟨told,c,g,rfl,bo,by omega,sB,λS r=>?_⟩;and_intros;rw[Q];clear hhd;clear Q;cases hd<;>rfl
  rintro α rfl;refine yp (λα=>∃fd,((hd=true/\fd=.list ((qR told c g).map hD))\/(hd=false/\fd=.none))/\α=sL C cs z M told c g hd [some (.dat fd),none,none,none,none,none]) ?_ ?_
  ·refine zX 9 nd (yo a9 (hr.mono (by decide)) (by rfl) (zi (zg 6 rfl (zi (zg 5 rfl (zq ⟨told,c,g,rfl,rr,B,sb,?_⟩))))));cases hd with
   |true=>exact .inl ⟨hhd,zx ⟨_,.inl ⟨rfl,rfl⟩,rfl⟩⟩
   |false=>exact .inr ⟨hhd,zx ⟨_,.inr ⟨rfl,rfl⟩,rfl⟩⟩
  rintro α ⟨fd,a1,rfl⟩;refine yp (λα=>α=sL C cs z M told c g hd [some (.dat fd),none,none,none,none,none]) ?_ ?_
  ·and_intros;refine⟨told,c,g,zo 0 told c g,rfl,rr,B,sb,wall,?_⟩;rw[mW (λ_ h=>h),hhd];and_intros;rw[show(A.dat (PyData.bool hd)).d.eqv (PyData.bool hd)=true by cases hd<;>rfl];and_intros;rw[show(xl fd == hd)=false by rcases a1 with⟨rfl,rfl⟩|⟨rfl,rfl⟩<;>rfl];and_intros;rfl
  rintro α rfl;refine yH 10 nd ?_;and_intros;have a3:=bM (told:=told) (c:=c) (g:=g) O g1;have lift:∀(L F:List H3),(∀h∈zo 0 told c g,h∈F\/h∈L)->zR told c g F=false->bw (yy L told) c g="had":=λL F hF t=>nJ (by unfold yy;simp) N hF (λ_ _ _=>bp) t;have a2:∀L,(yy L told).length<=4:=λL=>by unfold yy;simp;exact B
  have a4:∀ds∈told,ds.length<=24:=λds o=>by have:=(V ds o).2;omega
  have a5:told≠[]:=λe=>by rw[e]at a0;simp at a0
  refine yp (λα=>∃(J I l u:Option A),α=sL C cs z M told c g hd [some (.dat fd),J,I,l,u,none]) ?_ ?_
  ·refine yh (.one 12) (zF (EvL.d (md (zg 7 rfl ?_))));and_intros;rw[iE _ (by decide),<-yi6];generalize hT:(zo 0 told c g).take (12:Int).toNat=T;have sT:∀x∈T,x∈zo 0 told c g:=λx m=>by rw[<-hT]at m;exact yc8 m
   have lT:T.length<=12:=by rw[<-hT];exact List.length_take_le _ _
   refine zK (λi α=>∃(l u:Option A) (ss:List H3) (hb:Bool),α=sL C cs z M told c g hd [some (.dat fd),some (.own (ss.map hD)),some (.dat (.bool hb)),l,u,none]/\(∀x∈ss,x∈zo 0 told c g)/\ss.length<=i/\(hb=true->zR told c g ss=true)) ⟨none,none,[],false,rfl,(λ_ h=>nomatch h),by simp,(λh=>nomatch h)⟩ ?_ ?_
   ·rintro i x α m ⟨l,u,ss,hb,rfl,sub,sl,hm⟩;rw[zY7,zZ3]at m;obtain⟨h,hu,rfl⟩:=m;have hi:=(zY0.mp hu).1;have b3:(ss.map hD).length<=i:=by rw[zX8];exact sl
    refine⟨_,rfl,?_⟩;refine eG 10 rfl (yo CD (hr.mono (by decide)) (by rfl) (yK 2 rfl (zi (oq 10 rfl ?_))));and_intros;refine⟨rfl,?_⟩;and_intros;rename_i v v0 v1;obtain⟨Y,e1,e2,e3,e4⟩:=zD7 ss v h;refine⟨by omega,by omega,by omega,?_⟩;rw[e1];have G:∀x∈Y,x∈zo 0 told c g:=λx m=>by
     rcases e3 x m with q|q
     ·exact sub x q
     ·rw[q];exact sT h (z24 hu)
    have a6:Wd Y:=λx m=>wall x (G x m);refine zX 13 nd (oq 10 rfl (yo b1 (hr.mono (by decide)) (by rfl) (zi (zg 6 rfl (zi (zg 5 rfl (zi (zg 10 rfl (zq ⟨told,c,g,Y,rfl,rr,B,sb,a6,rfl,?_⟩)))))))));rw[mW G];have D:¬(hb=true/\zR told c g Y=false):=λ⟨q1,q2⟩=>by rw[uQ (λx m=>e4 x m) (hm q1)]at q2;cases q2
    generalize hN:zR told c g Y=hn at D;and_intros;refine ui (λq1=>?_) (λq1=>?_)
    ·and_intros;refine yr (λq2=>(D ⟨q1,by simpa using q2⟩).elim) (λq2=>?_);and_intros;exact⟨_,_,Y,hn,rfl,G,by omega,λq=>hN.trans q⟩
    ·and_intros;exact⟨_,_,Y,hn,rfl,G,by omega,λq=>hN.trans q⟩
   ·rintro α ⟨l,u,ss,hb,rfl,sub,sl,hm⟩;and_intros;exact⟨_,_,_,_,rfl⟩
  rintro α ⟨J,I,l,u,rfl⟩;refine yp (λα=>∃od,(od=.none\/(od=xH C cs (yy (zo 0 told c g) told)/\xN (yy (zo 0 told c g) told)))/\α=sL C cs z M told c g hd [some (.dat fd),J,I,l,u,some (.dat od)]) ?_ ?_
  ·refine zX 14 nd (yo Z (hr.mono (by decide)) (by rfl) (zi (zg 4 rfl (zi (zg 7 rfl (zq ⟨told,zo 0 told c g,rfl,bo,a4,a5,B,a3,hlen,?_,λb=>?_⟩))))))
   ·exact zx ⟨_,.inl rfl,rfl⟩
   ·exact zx ⟨_,.inr ⟨rfl,b⟩,rfl⟩
  rintro α ⟨od,R,rfl⟩;refine yp (λα=>α=sL C cs z M told c g hd [some (.dat fd),J,I,l,u,some (.dat od)]) ?_ ?_
  ·rcases R with rfl|⟨rfl,b⟩
   ·and_intros;rfl
   ·have hb:=lift _ [] (λh hm=>.inr hm) (zc4 (zY1 (by omega)) cg);have a8:=a2 (zo 0 told c g);and_intros;refine⟨_,c,g,rfl,b,by omega,sB,λS r=>?_⟩;and_intros;rw[hb];and_intros;rfl
  rintro α rfl;rcases a1 with⟨b0,rfl⟩|⟨a7,rfl⟩
  ·subst b0;obtain⟨⟨p,hp⟩,hw,need⟩:=zG5 hhd;rw[z40]at need;have sW:∀x∈qR told c g,x∈zo 0 told c g:=λx m=>by rw[hp]at m;exact(z39.mp m).1
   generalize qR told c g=W at need sW hw;have wW:Wd W:=λx m=>wall x (sW x m);refine yh (.one 12) (zF (EvL.d (md (cN (zg 9 rfl ⟨_,rfl,?_⟩)))));cases W with
   |nil=>
    and_intros;exact zx (ln _ rfl)
   |cons a r=>
    refine zc7 rfl ?_;and_intros;rw[iE _ (by decide),<-yi6];generalize hT:(a::r).take (2:Int).toNat=T;have sT:∀x∈T,x∈(a::r):=λx m=>by rw[<-hT]at m;exact yc8 m
    clear hT;generalize a::r=W at need sW hw wW sT;refine zK (λi α=>∃(l U:Option A),α=sL C cs z M told c g true [some (.dat (.list (W.map hD))),J,I,l,u,U]) ⟨_,_,rfl⟩ ?_ ?_
    ·rintro i x α m ⟨l,U,rfl⟩;rw[zY7,zZ3]at m;obtain⟨h,hu,rfl⟩:=m;have hm:=sT h (z24 hu);generalize hL:(zo 0 told c g).filter (λy=>!inH W y||decide (y=h))=L;have wL:W5 L:=λy hy=>by rw[<-hL]at hy;exact a3 y (z39.mp hy).1
     have lL:L.length<=300:=by rw[<-hL];exact zY8 (z69 _ _) hlen
     have hF:∀y∈zo 0 told c g,y∈wo h W\/y∈L:=λy hy=>by
      by_cases e:y=h
      ·exact .inr (by rw[<-hL];exact z39.mpr ⟨hy,by rw[z26 e,Bool.or_true]⟩)
      ·by_cases w':y∈W
       ·exact .inl (rX.mpr ⟨w',e⟩)
       ·right;have hf:inH W y=false:=by
         cases q:inH W y with
         |false=>rfl
         |true=>exact absurd (jC.mp q) w'
        rw[<-hL];exact z39.mpr ⟨hy,by rw[hf];rfl⟩
     refine⟨_,rfl,?_⟩;refine yp (λα=>∃od,(od=.none\/(od=xH C cs (yy L told)/\xN (yy L told)))/\α=sL C cs z M told c g true [some (.dat (.list (W.map hD))),J,I,some (.dat (hD h)),u,some (.dat od)]) ?_ ?_
     ·refine zX 14 nd (yo Z (hr.mono (by decide)) (by rfl) (zi (zg 4 rfl (zi (EvL.d (yz ["_law_other","_law_found","_law_one"] [none,some 9,some 12] (.one 0) (zF (zg 7 rfl ⟨_,rfl,?_⟩))))))));refine⟨by rw[zX8];omega,?_⟩;refine yL (λy=>!inH W y||decide (y=h)) hD (λy hy=>⟨_,rfl,λ_ _ _ _ _ k=>?_,λ_ _ _ _ _ _ k=>?_⟩) ?_
      ·refine xX (EvW.t (zx5 (fN hr.units (zg 0 rfl (zg 1 rfl ⟨_,rfl,oC (wall y hy),pO wW,ud y,pK W,rV y,?_⟩)))));rw[zb2];refine ui (λq=>?_) (λq=>?_)
       ·rw[q,Bool.true_or]at k;exact k
       ·rw[q,yg1]at k;and_intros;refine eqk (uv (wall y hy)) (uv (wW h hm)) (ud y) (ud h) ?_;rw[js];exact k
      ·and_intros;exact k
      rw[z29,hL];refine zq ⟨told,L,rfl,bo,a4,a5,B,wL,lL,?_,λb=>?_⟩
      ·exact zx ⟨_,.inl rfl,rfl⟩
      ·exact zx ⟨_,.inr ⟨rfl,b⟩,rfl⟩
     rintro α ⟨od,R,rfl⟩;rcases R with rfl|⟨rfl,b⟩
     ·and_intros;exact⟨_,_,rfl⟩
     ·have hb:=lift L (wo h W) hF (need h (sW h hm) hm);have a8:=a2 L;and_intros;refine⟨_,c,g,rfl,b,by omega,sB,λS r=>?_⟩;and_intros;rw[hb];and_intros;exact⟨_,_,rfl⟩
    ·rintro α ⟨l,U,rfl⟩;and_intros;exact ln _ rfl
  ·subst a7;refine yh (.one 12) (zF (EvL.d (md (cN (zg 9 rfl ⟨_,rfl,?_⟩)))));and_intros;exact zx (ln _ rfl)
 ·intro α _;exact xS (za6 rfl)
end
theorem us1 {α:Type}{p:List α->Prop}(h:∀a,p [a])(us:List α)(b:us.length=1):p us:=by
 obtain⟨a,rfl⟩:=List.length_eq_one_iff.mp b;exact h a
theorem us2 {α:Type}{p:List α->Prop}(h:∀a b,p [a,b])(us:List α)(c:us.length=2):p us:=by
 cases us with
 |nil=>cases c
 |cons a us=>exact us1 (p:=λus=>p (a::us)) (h a) us (Nat.succ.inj c)
theorem us3 {α:Type}{p:List α->Prop}(h:∀a b c,p [a,b,c])(us:List α)(d:us.length=3):p us:=by
 cases us with
 |nil=>cases d
 |cons a us=>exact us2 (p:=λus=>p (a::us)) (h a) us (Nat.succ.inj d)
theorem us4 {α:Type}{p:List α->Prop}(h:∀a b c d,p [a,b,c,d])(us:List α)(e:us.length=4):p us:=by
 cases us with
 |nil=>cases e
 |cons a us=>exact us3 (p:=λus=>p (a::us)) (h a) us (Nat.succ.inj e)
def FnF (K:PySem.W.Frag)(f:Addr)(nm a:Str)(st:Stmt)(ps:List Str):Prop:=∃fd,Fun K nm a st f fd/\Binds K fd ps []
section
variable {K:PySem.W.Frag}{h0:Heap}{mg:Str->Option Value}{f:Addr}{nm ql:Str}{st:Stmt}{ps:List Str}{oc kV dc pm cd ct:Value}{od an:Option Addr}{sl:Array (Option Value)}
theorem mkF (l:K.lookup f=some ⟨oc,od,.func (PySem.W.fnOf nm ql (zL st) (zr st) (zd st) .none kV dc pm an cd ct),sl⟩)(c:PySem.W.codeIn K cd ql=true)(k:PySem.W.keepIn K (.ref f)=true)
  (hb:∀(kV doc pm:Value) (an:Option Addr) (cdv ct:Value) (us:List Value),us.length=ps.length->bindArgs (PySem.W.fnOf nm ql (zL st) (zr st) (zd st) .none kV doc pm an cdv ct) ⟨us,[]⟩=pure (ps.zip us):=by intro _ _ _ _ _ _;first|exact K64.us1 λ_=>rfl|exact K64.us2 λ_ _=>rfl|exact K64.us3 λ_ _ _=>rfl|exact K64.us4 λ_ _ _ _=>rfl):FnF K f nm ql st ps:=⟨_,oy l c k,(oy l c k).binds hb⟩
theorem mkG (X:K.In h0)(G:h0.Ns mainGlobals mg)(a:PySem.W.nsIn K mainGlobals nm=some (some (.ref f)))(q:FnF K f nm nm st ps):FnD K mg nm st ps:=by
 obtain⟨_,F,b⟩:=q;exact⟨f,_,F,z37 X G a,b⟩
end
theorem mkR {K:PySem.W.Frag}{C b gt ge a:Addr}(pg:PySem.W.plainGet K C Str.empty=true)(hd:PySem.W.hasDictIn K C=true)(po:PySem.W.plainOver K C=true)(sa:PySem.W.findIn K (.ref C) "__setattr__"=some (some (.builtin "object.__setattr__")))(n1:PySem.W.findIn K (.ref C) "first"=some none)(f:PySem.W.findIn K (.ref C) "last"=some none)(h:PySem.W.findIn K (.ref C) "worth"=some none)(mk:PySem.W.makesIn K C=true)(f1:PySem.W.findIn K (.ref C) "__init__"=some (some (.ref b)))(i1:PySem.W.isFn K (.ref b)=true)(g:PySem.W.keepIn K (.ref C)=true)(f2:PySem.W.findIn K (.ref C) "told"=some (some (.ref gt)))(i2:PySem.W.isFn K (.ref gt)=true)(k2:PySem.W.keepIn K (.ref gt)=true)(c:PySem.W.findIn K (.ref C) "tells"=some (some (.ref ge)))(i3:PySem.W.isFn K (.ref ge)=true)(k3:PySem.W.keepIn K (.ref ge)=true)(f4:PySem.W.findIn K (.ref C) "word"=some (some (.ref a)))(d:PySem.W.isFn K (.ref a)=true)(e:PySem.W.keepIn K (.ref a)=true):tO K C b gt ge a:=⟨⟨pg,hd,po,sa⟩,n1,f,h,⟨mk,f1,i1,g⟩,⟨f2,i2,k2⟩,⟨c,i3,k3⟩,⟨f4,d,e⟩⟩
theorem fj {K:PySem.W.Frag}{dT:Addr}{oc kV doc pm cdv ct:Value}{od an:Option Addr}{n:Nat}{sl:Array (Option Value)}(b:K.lookup dT=some ⟨oc,od,.seq #[.none] n,sl⟩):
  Binds K (PySem.W.fnOf "__init__" "Book.__init__" (zL xj) (zr xj) (zd xj) (.ref dT) kV doc pm an cdv ct) ["self","rules"] [.none]:=λs us hk a=>by
 match us,(show us.length=1 by rw[z04]at a;simpa using a)with
 |[u],_=>exact BindsTo.of_defaults (T:=dT) rfl (hk _ _ b) rfl rfl rfl
theorem fQ {K:PySem.W.Frag}{dT:Addr}{oc kV doc pm cdv ct:Value}{od an:Option Addr}{n:Nat}{sl:Array (Option Value)}(b:K.lookup dT=some ⟨oc,od,.seq #[.none] n,sl⟩):
  Binds K (PySem.W.fnOf "__init__" "Book.__init__" (zL xj) (zr xj) (zd xj) (.ref dT) kV doc pm an cdv ct) ["self","rules"] []:=λs us hk a=>by
 rw[z45]at a ⊢
 match us,a with
 |[u,v],_=>exact BindsTo.of_defaults (T:=dT) rfl (hk _ _ b) rfl rfl rfl
theorem zp0 {P:Str->Prop}(e:P "price")(f:P "come")(d:P "go")(g:P "least")(h:P "most")(b:P "deal")(c:P "fee"):∀u∈words,P u:=by
 intro u a;simp only[words,zY2,zZ8,z33]at a;rcases a with rfl|rfl|rfl|rfl|rfl|rfl|rfl<;>assumption
theorem all_mk {l:PySem.W.OpenLaw}{w:World}{K:PySem.W.Frag}{h:Heap}{mg:Str->Option Value}{fa cC j2 k9 n m g a9 c8 g0 a8 c2 c9 d9 b d N a f c p CB dT j M R dU g9 t:Addr}(X:K.In h)(G:h.Ns mainGlobals mg)(r7:mg "law"=some (.ref fa))
  {p3 o1 m8 k4 u5 q5 v8:Option Addr} {n9 n1 r3 t0:Array (Option Value)} {n4 m5 o2 n0 o6 p5 k6 k8 k7 k5 g1 u9 w1 q1 w5 x7 o3 v0:Value} {o9 m0 o4 p2 v6 w2 x0 x4 u1 s9 p7 x2 s4 p4:Tok} {p1 n5 n7 o0 m3 m1 n2:Int} {nT nU:Nat}
  (c7:FnD K mg "is_whole" aI ["thing"])
  (C:FnD K mg "is_whole_within" jY ["thing","lowest","highest"])
  (d4:FnD K mg "is_pair" zu1 ["thing"])
  (e4:FnD K mg "is_day" zT0 ["thing"])
  (D:FnD K mg "is_pair_of_days" zt7 ["thing"])
  (a5:FnD K mg "is_stretch" mJ ["thing"])
  (d0:FnD K mg "is_coins" bL ["thing"])
  (d3:FnD K mg "is_deal" jO ["thing"])
  (c4:FnD K mg "is_worth" bh ["word","thing"])
  (d1:FnD K mg "is_rule" iz ["thing"])
  (j1:FnD K mg "made" zv8 ["word","first","last","worth"])
  (d5:FnD K mg "rule_of" jS ["thing"])
  (b4:FnD K mg "nights_of" iN ["stay"])
  (J:FnD K mg "hindrances_by" zM1 ["number","book","stay"])
  (a1:FnD K mg "hindrances" zv9 ["books","stay"])
  (i1:FnD K mg "lets" zO5 ["number","book","stay","force"])
  (c5:FnD K mg "leads_to" nh ["books","begins","day","force"])
  (Z:FnD K mg "is_held_off" nB ["books","stay","some"])
  (b7:FnD K mg "holds_off" qX ["books","stay","some"])
  (g6:FnD K mg "why" zk8 ["books","stay"])
  (g2:FnD K mg "usual" zb7 ["word"])
  (a6:FnD K mg "kept_rules" zt4 ["things"])
  (w3:PySem.W.nsIn K mainGlobals "cheapest_first"=some (some (.ref j2)))
  (o8:K.lookup j2=some ⟨n4,p3,.func (PySem.W.fnOf "cheapest_first" "cheapest_first" (zL yC) (zr yC) (zd yC) .none m5 o2 n0 o1 (.ref cC) o6),n9⟩)
  (m7:PySem.W.codeIn K (.ref cC) "cheapest_first"=true)
  (n3:PySem.W.keepIn K (.ref j2)=true)
  (e2:FnD K mg "marked" ie ["prices","deal"])
  (T:FnD K mg "night_prices" sNP ["book","nights"])
  (k3:FnD K mg "bill" zv6 ["book","stay"])
  (j0:FnD K mg "bars" nc ["book","stay"])
  (a4:FnD K mg "can_be_had" zO6 ["book","stay"])
  (S:FnD K mg "cost_or_none" zR1 ["book","stay"])
  (c0:FnD K mg "arrivals" zQ1 ["books","ways","day"])
  (a2:FnD K mg "least_ways" sLW ["books","stay"])
  (f4:FnD K mg "cut_of" bD ["ways","stay"])
  (c1:FnD K mg "paper_of" ze6 ["ways","stay"])
  (j7:FnD K mg "best" zw1 ["books","stay"])
  (a3:FnD K mg "_law_begin" cS ["_law_cell"])
  (b3:FnD K mg "_law_take" ar ["_law_row","_law_base"])
  (a0:FnD K mg "_law_coins" iO ["_law_row"])
  (a7:FnD K mg "_law_worth" jE ["_law_row","_law_word"])
  (b8:FnD K mg "_law_rule" aa ["_law_row","_law_day_here"])
  (c6:FnD K mg "_law_day" zu6 ["_law_row"])
  (b6:FnD K mg "_law_stay" aW ["_law_row","_law_day_here"])
  (B:FnD K mg "_law_rules" jD ["_law_row","_law_day_here","_law_most"])
  (V:FnD K mg "_law_reason" iA ["_law_books","_law_stay_here"])
  (U:FnD K mg "_law_lifting" mL ["_law_number","_law_rows"])
  (Y:FnD K mg "_law_lifted" jQ ["_law_told","_law_rows"])
  (q7:PySem.W.nsIn K mainGlobals "law"=some (some (.ref k9)))
  (q0:K.lookup k9=some ⟨p5,m8,.func (PySem.W.fnOf "law" "law" (zL pW) (zr pW) (zd pW) .none k6 k8 k7 k4 g1 k5),n1⟩)
  (t3:PySem.W.codeIn K g1 "law"=true)
  (x5:PySem.W.keepIn K (.ref k9)=true)
  (h2:PySem.W.nsIn K mainGlobals "Price"=some (some (.ref b)))
  (j8:PySem.W.nsIn K mainGlobals "Come"=some (some (.ref d)))
  (n6:PySem.W.nsIn K mainGlobals "Go"=some (some (.ref N)))
  (g7:PySem.W.nsIn K mainGlobals "Least"=some (some (.ref a)))
  (i8:PySem.W.nsIn K mainGlobals "Most"=some (some (.ref f)))
  (j4:PySem.W.nsIn K mainGlobals "Deal"=some (some (.ref c)))
  (l4:PySem.W.nsIn K mainGlobals "Fee"=some (some (.ref p)))
  (z:tO K b n m g a9)
  (L:tO K d n m g c8)
  (f3:tO K N n m g g0)
  (A:tO K a n m g a8)
  (O:tO K f n m g c2)
  (Q:tO K c n m g c9)
  (b1:tO K p n m g d9)
  (i6:FnF K n "__init__" "Rule.__init__" zy7 ["self","first","last","worth"])
  (i7:FnF K m "told" "Rule.told" zs4 ["self"])
  (h9:FnF K g "tells" "Rule.tells" br ["self","day"])
  (f0:FnF K a9 "word" "Price.word" zk1 ["self"])
  (h6:FnF K c8 "word" "Come.word" zA2 ["self"])
  (l8:FnF K g0 "word" "Go.word" zX0 ["self"])
  (e7:FnF K a8 "word" "Least.word" zm9 ["self"])
  (h3:FnF K c2 "word" "Most.word" zE0 ["self"])
  (h4:FnF K c9 "word" "Deal.word" zE6 ["self"])
  (k1:FnF K d9 "word" "Fee.word" zT5 ["self"])
  (r4:PySem.W.nsIn K mainGlobals "Book"=some (some (.ref CB)))
  (f2:PySem.W.findIn K (.ref CB) "__init__"=some (some (.ref j)))
  (e3:PySem.W.isFn K (.ref j)=true)
  (h1:K.lookup j=some ⟨u9,u5,.func (PySem.W.fnOf "__init__" "Book.__init__" (zL xj) (zr xj) (zd xj) (.ref dT) w1 q1 w5 q5 o3 x7),r3⟩)
  (h0:PySem.W.codeIn K o3 "Book.__init__"=true)
  (h5:PySem.W.keepIn K (.ref j)=true)
  (lT:K.lookup dT=some ⟨v0,v8,.seq #[.none] nT,t0⟩)
  (d7:PySem.W.findIn K (.ref CB) "rules"=some (some (.ref M)))
  (d6:PySem.W.isFn K (.ref M)=true)
  (f7:FnF K M "rules" "Book.rules" uA ["self"])
  (d8:PySem.W.findIn K (.ref CB) "tells_of"=some (some (.ref R)))
  (d2:PySem.W.isFn K (.ref R)=true)
  (e6:FnF K R "tells_of" "Book.tells_of" jR ["self","word","day"])
  (t9:PySem.W.plainGet K CB Str.empty=true)
  (r0:PySem.W.hasDictIn K CB=true)
  (q4:PySem.W.plainOver K CB=true)
  (t7:PySem.W.findIn K (.ref CB) "__setattr__"=some (some (.builtin "object.__setattr__")))
  (r1:PySem.W.makesIn K CB=true)
  (v4:PySem.W.keepIn K (.ref CB)=true)
  (l2:PySem.W.findIn K (.ref CB) "kept"=some none)
  (z1:PySem.W.nsIn K mainGlobals "abs"=some none)
  (z2:PySem.W.nsIn K mainGlobals "list"=some none)
  (z3:PySem.W.nsIn K mainGlobals "len"=some none)
  (z4:PySem.W.nsIn K mainGlobals "range"=some none)
  (z5:PySem.W.nsIn K mainGlobals "min"=some none)
  (z6:PySem.W.nsIn K mainGlobals "max"=some none)
  (z7:PySem.W.nsIn K mainGlobals "sorted"=some none)
  (z8:PySem.W.nsIn K mainGlobals "isinstance"=some none)
  (z9:PySem.W.nsIn K mainGlobals "int"=some none)
  (s0:PySem.W.nsIn K mainGlobals "bool"=some none)
  (r5:PySem.W.nsIn K mainGlobals "str"=some none)
  (y2:PySem.W.nsIn K mainGlobals "tuple"=some none)
  (r2:PySem.W.nsIn K mainGlobals "all"=some none)
  (t8:PySem.W.nsIn K mainGlobals "any"=some none)
  (w8:PySem.W.nsIn K mainGlobals "repr"=some none)
  (t4:PySem.W.nsIn K mainGlobals "zip"=some none)
  (w4:PySem.W.nsIn K mainGlobals "enumerate"=some none)
  (v3:PySem.W.nsIn K mainGlobals "reversed"=some none)
  (s2:PySem.W.nsIn K mainGlobals "sum"=some none)
  (r8:PySem.W.nsIn K mainGlobals "dict"=some none)
  (u7:PySem.W.nsIn K mainGlobals "LAST_DAY"=some (some (.int 1000000 o9)))
  (o5:PySem.W.nsIn K mainGlobals "MOST_NIGHTS"=some (some (.int 14 m0)))
  (r6:PySem.W.nsIn K mainGlobals "MOST_COINS"=some (some (.int 1000000000000 o4)))
  (q2:PySem.W.nsIn K mainGlobals "MOST_RULES"=some (some (.int 24 p2)))
  (aU:PySem.W.nsIn K mainGlobals "USUAL"=some (some (.ref dU)))
  (lU:K.lookup dU=some ⟨.type "dict",none,.dict #[⟨p1,.str "price" v6,.none⟩,⟨n5,.str "come" w2,.bool true⟩,⟨n7,.str "go" x0,.bool true⟩,⟨o0,.str "least" x4,.int 1 x2⟩,⟨m3,.str "most" u1,.int 14 s4⟩,⟨m1,.str "deal" s9,.none⟩,⟨n2,.str "fee" p7,.int 0 p4⟩] nU,#[]⟩)
  (u8:p1=hashStr w "price")
  (s7:n5=hashStr w "come")
  (u0:n7=hashStr w "go")
  (t2:o0=hashStr w "least")
  (y0:m3=hashStr w "most")
  (p8:m1=hashStr w "deal")
  (s8:n2=hashStr w "fee")
  (hhd:PySem.W.codeHdIn K cC yk=true)
  (u6:PySem.W.nsIn K mainGlobals "StayError"=some (some (.ref g9)))
  (i9:PySem.W.nsIn K mainGlobals "Had"=some (some (.ref t)))
  (j9:ke K t g9 none=true)
  (j5:PySem.W.keepIn K (.ref t)=true)
  (c3:dq K t t=true):
  ∃fd:FuncData,(∀(s:Shared) (v:Value),BindsTo s fd ⟨[v],[]⟩ [("_law_script",v)])/\∀base:Heap,K.In base->base.Ns mainGlobals mg->base.BuiltinsAt mg yk->yv l.prog w K mg base CX0 12 fa fd ["_law_script"] (nO K):=by
 have e:=r7.symm.trans (z37 X G q7);cases e;have nb:NbT mg:=⟨z21 X G z1,z21 X G z2,z21 X G z3,z21 X G z4,z21 X G z5,z21 X G z6,z21 X G z7,z21 X G z8,z21 X G z9,z21 X G s0,z21 X G r5,z21 X G y2,z21 X G r2,z21 X G t8,z21 X G w8,z21 X G t4,z21 X G w4,z21 X G v3,z21 X G s2⟩;have i4:mg "dict"=none:=z21 X G r8;have F:mg "cheapest_first"=some (.ref j2):=z37 X G w3;have H:=oy (st:=yC) o8 m7 n3;have E:=H.binds (ps:=["prices","places"]) λ_ _ _ _ _ _=>us2 λ_ _=>rfl;obtain⟨_,_,I,b9,b5⟩:=b3;have h7:=oy (st:=pW) q0 t3 x5;have q9:=h7.binds (ps:=["_law_script"]) λ_ _ _ _ _ _=>us1 λ_=>rfl;obtain⟨_,x,r⟩:=i6;obtain⟨_,y,q⟩:=i7;obtain⟨_,k,i⟩:=h9;obtain⟨_,e5,f5⟩:=f0;obtain⟨_,g5,h8⟩:=h6;obtain⟨_,l3,l0⟩:=l8;obtain⟨_,f1,e9⟩:=e7;obtain⟨_,f9,g3⟩:=h3;obtain⟨_,g4,g8⟩:=h4;obtain⟨_,i3,j3⟩:=k1;obtain⟨_,b0,e8⟩:=f7;obtain⟨_,b2,f6⟩:=e6;refine⟨PySem.W.fnOf "law" "law" (zL pW) (zr pW) (zd pW) .none k6 k8 k7 k4 g1 k5,λs v=>.of_eq rfl,λbase KX _ hbi=>?_⟩;have i2:=yP (P:=l.prog) (w:=w) (base:=base) z (z37 X G h2) x r;have l9:=yP (P:=l.prog) (w:=w) (base:=base) L (z37 X G j8) x r;have s6:=yP (P:=l.prog) (w:=w) (base:=base) f3 (z37 X G n6) x r;have k0:=yP (P:=l.prog) (w:=w) (base:=base) A (z37 X G g7) x r;have l7:=yP (P:=l.prog) (w:=w) (base:=base) O (z37 X G i8) x r;have l6:=yP (P:=l.prog) (w:=w) (base:=base) Q (z37 X G j4) x r;have n8:=yP (P:=l.prog) (w:=w) (base:=base) b1 (z37 X G l4) x r;have v1:=zo4 (P:=l.prog) (w:=w) (base:=base) c7 nb;have i5:=ja C v1;have o7:=zd0 (P:=l.prog) (w:=w) (base:=base) d4 nb;have w6:=fX e4 ⟨o9,z37 X G u7⟩ i5;have x3:=mY a5 (df D o7 w6);have q3:=lu d0 ⟨o4,z37 X G r6⟩ i5;have u2:=kH d3 ⟨m0,z37 X G o5⟩ o7 i5;have s3:=lJ d1 nb x3 (mI c4 nb ⟨m0,z37 X G o5⟩ i5 q3 u2);have v2:=lE d5 s3 (bz (cs:=⟨b,d,N,a,f,c,p⟩) j1 i2 l9 s6 k0 l7 l6 n8);have w9:=za1 a6 nb ⟨p2,z37 X G q2⟩ v2;have cB:Cls K CB:=⟨t9,r0,q4,t7⟩;have m9:=eU (zg6 (st:=xj) h1 h0 h5) cB l2 w9;have e1:mg "Book"=some (.ref CB):=z37 X G r4;have m6:Mk K CB j:=⟨r1,f2,e3,v4⟩;have m4:ur l.prog w K mg base "Book" 9 [] (qc CB ⟨b,d,N,a,f,c,p⟩):=⟨CB,j,_,_,_,e1,m6,fQ lT,.nil,m9⟩;have y3:ur l.prog w K mg base "Book" 9 [.non] (qc CB ⟨b,d,N,a,f,c,p⟩):=⟨CB,j,_,_,_,e1,m6,fj lT,.cons rfl .nil,m9⟩;have OW:∀u∈words,xJ l.prog w K mg base ((⟨b,d,N,a,f,c,p⟩:Cs).of u) "word" 1 (pT ((⟨b,d,N,a,f,c,p⟩:Cs).of u) u):=zp0 (yO z e5 f5 .o rfl) (yO L g5 h8 .o rfl) (yO f3 l3 l0 .o rfl) (yO A f1 e9 .o rfl) (yO O f9 g3 .o rfl) (yO Q g4 g8 .o rfl) (yO b1 i3 j3 .o rfl);have OT:∀u∈words,xJ l.prog w K mg base ((⟨b,d,N,a,f,c,p⟩:Cs).of u) "told" 2 (kh ((⟨b,d,N,a,f,c,p⟩:Cs).of u) u):=zp0 (yS z y q (OW _ (by simp[words]))) (yS L y q (OW _ (by simp[words]))) (yS f3 y q (OW _ (by simp[words]))) (yS A y q (OW _ (by simp[words]))) (yS O y q (OW _ (by simp[words]))) (yS Q y q (OW _ (by simp[words]))) (yS b1 y q (OW _ (by simp[words])));have DU:jL K w dU tbU:=⟨_,nU,lU,.cons ⟨u8,⟨_,rfl⟩,rfl⟩ (.cons ⟨s7,⟨_,rfl⟩,rfl⟩ (.cons ⟨u0,⟨_,rfl⟩,rfl⟩ (.cons ⟨t2,⟨_,rfl⟩,⟨_,rfl⟩⟩ (.cons ⟨y0,⟨_,rfl⟩,⟨_,rfl⟩⟩ (.cons ⟨p8,⟨_,rfl⟩,rfl⟩ (.cons ⟨s8,⟨_,rfl⟩,⟨_,rfl⟩⟩ (.nil))))))),by decide +kernel⟩;have CU:=fR (P:=l.prog) (base:=base) g2 (z37 X G aU) DU;have t5:∀u∈words,xJ l.prog w K mg base ((⟨b,d,N,a,f,c,p⟩:Cs).of u) "tells" 1 (rf ((⟨b,d,N,a,f,c,p⟩:Cs).of u)):=zp0 (yn z k i) (yn L k i) (yn f3 k i) (yn A k i) (yn O k i) (yn Q k i) (yn b1 k i);have OC:∀u∈words,Cls K ((⟨b,d,N,a,f,c,p⟩:Cs).of u)/\yu K ((⟨b,d,N,a,f,c,p⟩:Cs).of u) "worth":=zp0 (⟨z.cl,z.nw⟩) (⟨L.cl,L.nw⟩) (⟨f3.cl,f3.nw⟩) (⟨A.cl,A.nw⟩) (⟨O.cl,O.nw⟩) (⟨Q.cl,Q.nw⟩) (⟨b1.cl,b1.nw⟩);have f8:=jr cB l2 ⟨d8,d2,b2.kp⟩ b2 f6 nb CU OW t5 OC;have MR:=jn cB l2 ⟨d7,d6,b0.kp⟩ b0 e8 OT;have i0:mg "StayError"=some (.ref g9):=z37 X G u6;have e0:mg "Had"=some (.ref t):=z37 X G i9;have k2:=XC.of j9;have CB:=iX (P:=l.prog) (w:=w) (base:=base) a3;have CD:Cal l.prog w K mg base "_law_take" 1 xV:=zc3 b9 I.kp b5 (zj8 I);have l5:=fY a0 CD;have CW:=eL a7 CD l5;have p0:=cH b8 nb CD CW;have CY:=zp9 c6 CD;have g9:=eu b6 nb CD;have CN:=jl (P:=l.prog) (w:=w) (base:=base) b4 nb;have m2:=rj B nb CD l5 p0;have CC:Cal l.prog w K mg base "cheapest_first" 3 pw:=eA o8 m7 n3 F E nb hhd KX hbi;have s1:Cal l.prog w K mg base "marked" 4 rW:=lC e2 nb CC;have u3:=zE8 T f8;have r9:=cG k3 nb f8 CN u3 s1;have v9:=cy j0 CN f8;have v5:=zr7 a4 v9;have w7:=zr0 S v5 r9;have u4:=zl7 c0 nb w7;have x9:=zG0 a2 nb u4;have q6:=zk0 (P:=l.prog) (w:=w) (base:=base) f4 nb;have x1:=gJ (P:=l.prog) (w:=w) (base:=base) c1 nb;have p6:=dB j7 nb x9 q6 x1;have y1:=zl2 J nb CN f8;have j6:=bY a1 nb y1;have v7:=zr1 i1 nb CN f8;have w0:=ng c5 nb v7;have l1:=mF Z nb i4 w0;have t6:=oR b7 nb j6 l1;have x8:=zh0 g6 nb j6 l1;have x6:zB8 K mg "Had" t:=⟨e0,j5,⟨_,k2.ok⟩⟩;have q8:=dD g6 nb j6 l1 x6;have m2:=rj B nb CD l5 p0;have t1:=kY V e0 (XB.of c3) x8 q8;have s5:=nY (P:=l.prog) (w:=w) (base:=base) U nb;have p9:=kK Y nb s5 m4;exact zD0 h7 nb CB CD CY m2 g9 j6 p6 t1 t6 p9 m4
theorem walk {l:PySem.W.OpenLaw}{q:Program}{loose:List Str}{v:(Str->Option Value)->Heap->Prop}{e:World->Heap->Prop}{d:DefRec}{K:Params->PySem.W.Frag}{c:Addr}(hn:l.most=some 63)(hdf:d.params.defaults=[])
  (p:∀(w:World) (h:Heap),e w h->(K w.params).In h) (g:∀(w:World) (h:Heap),e w h->h.get? yk=some (PySem.W.tabObj #[]))
  (i:∀w:World,(K w.params).lookup yk=none) (b:∀w:World,∃o vs,(K w.params).lookup c=some o/\o.cls=.type "code"/\o.data=.fields vs/\vs[11]?=some (.ref yk))
  (F:∀(w:World) (mg:Str->Option Value) (j:Addr) (h:Heap),(K w.params).In h->h.Ns mainGlobals mg->mg d.name=some (.ref j)->
   ∃fd:FuncData,(∀(s:Shared) (u:Value),BindsTo s fd ⟨[u],[]⟩ [("_law_script",u)])/\∀base:Heap,(K w.params).In base->base.Ns mainGlobals mg->base.BuiltinsAt mg yk->yv l.prog w (K w.params) mg base CX0 12 j fd ["_law_script"] (nO (K w.params))):
  PySem.W.WalkO q loose v e l.row.toRowW d [] (λf vs=>PySem.call f vs):=
 L2.cM (n:=63) (k:=12) (x:="_law_script") (CX:=λ_=>CX0) (sp:=λw=>nO (K w.params)) hn (by decide) hdf ⟨rfl,by decide,by decide,rfl⟩ p g i b F (λ_ H a ns t _ hT m=>⟨a,ns,rfl,m,t,⟨#[],hT,trivial,λpos cv r=>by cases r⟩,λ_=>rfl⟩) λ_ _ _ _ _ z=>z
end K64
namespace PySem.W.Fast
def tw2406909621044764530:=Nat
def tw18445805411080523315:=Nat
def tw3628699238394967053:=Nat
def tw10571526613862208498:=Nat
def tw8928394720925543172:=Nat
def tw16025003655412936603:=Nat
def tw555037439635992984:=Nat
def tw17426403465024142899:=Nat
def tw2621023164676609080:=Nat
def tw7070487075501225327:=Nat
def tw17887128539180901944:=Nat
def tw2531315331172820619:=Nat
def tw391278789520776860:=Nat
def tw15161753755613252607:=Nat
def tw10688132593910856936:=Nat
def tw2352703460040470345:=Nat
def tw11237972647232518996:=Nat
def tw4675171325908533798:=Nat
def tw1931585702356255531:=Nat
def tw18061030648916474356:=Nat
def tw5852348016639708250:=Nat
def tw5108529608101618185:=Nat
def tw6611697959491287167:=Nat
def tw9033208827717621028:=Nat
def tw9221682084298931114:=Nat
def tw2961879401051989360:=Nat
def tw4403098668309292746:=Nat
def tw14712521254167109917:=Nat
def tw16278132923176971555:=Nat
def tw14283294848528185327:=Nat
def tw16182895911892449704:=Nat
def tw9375835085682881751:=Nat
def tw10649181837264413381:=Nat
def tw2295292965209966582:=Nat
def tw5715213508543581734:=Nat
def tw15865797135869762048:=Nat
def tw15993352230836083717:=Nat
def tw2164033480723941745:=Nat
def tw16760251835410242419:=Nat
def tw12530328125985504514:=Nat
def tw827299357831634675:=Nat
def tw17676756547727639539:=Nat
def tw6525802613120020189:=Nat
def tw14216533489031016565:=Nat
def tw15854933965213697502:=Nat
def tw16435566577828192589:=Nat
def tw13530593541160395376:=Nat
def tw1610545439351377363:=Nat
def tw10914663732414723594:=Nat
def tw9450549652990099744:=Nat
def tw5345217149189374333:=Nat
def tw13546146463895265644:=Nat
def tw10333525907013414072:=Nat
def tw17461227067041538880:=Nat
def tw4937707350329900683:=Nat
def tw14184339501378883866:=Nat
def tw8766230594605685244:=Nat
def tw7582920827970127670:=Nat
def tw15146481184696875869:=Nat
def tw12433320352757823538:=Nat
def tw11572007958502079425:=Nat
def tw14066189090734221262:=Nat
def tw83623823281101956:=Nat
def tw1167017359414405988:=Nat
def tw12885417847613913191:=Nat
def tw16028729010078628405:=Nat
def tw3386297708329805527:=Nat
def tw3696912319152000159:=Nat
def tw1015446328353795844:=Nat
def tw16122592946823209207:=Nat
def tw10246325699132411206:=Nat
def tw17343421464313122654:=Nat
def tw18339624967437159921:=Nat
def tw8043732148788518715:=Nat
def tw660861548755239798:=Nat
def tw17535864675566556853:=Nat
def tw12754276643273992533:=Nat
def tw11307319974365302787:=Nat
def tw14482915091519627919:=Nat
def tw2798994947915825467:=Nat
def tw227630638542334888:=Nat
def tw7213509489850886053:=Nat
def tw2492228931059022548:=Nat
def tw10901995955489309354:=Nat
def tw9874657536818223196:=Nat
def tw15487647680013133254:=Nat
def tw1470077519092989028:=Nat
def tw8255612908275895615:=Nat
def tw10665083932256033705:=Nat
def tw2868839591223771571:=Nat
def tw7945904014935816819:=Nat
def tw11507640191811475963:=Nat
def tw17651722100103852750:=Nat
def tw6865304093775966509:=Nat
def tw17306375805083615597:=Nat
def tw2799762454012230242:=Nat
def tw4926044517276769829:=Nat
def tw12055219842589205680:=Nat
def tw5563587469493862957:=Nat
def tw13845790799794271488:=Nat
def tw4216445267732730376:=Nat
def tw12529586603265151978:=Nat
def tw16129811135870517945:=Nat
def tw3858605166790506118:=Nat
def tw14746095353324860281:=Nat
def tw11457474015458207260:=Nat
def tw13684225854435914185:=Nat
def tw15789392483984997067:=Nat
def tw5167737242337281551:=Nat
def tw6635896405113065312:=Nat
def tw9819102198617166738:=Nat
def tw1499063588007927753:=Nat
def tw11961794623429364771:=Nat
def tw11285302968757310737:=Nat
def tw8866530296710108502:=Nat
def tw4230345911097723497:=Nat
def tw1981941708464011610:=Nat
def tw5391792093565831546:=Nat
def tw6183867865648341610:=Nat
def tw14445325751151897512:=Nat
def tw16197048239965167402:=Nat
def tw1040417839870757611:=Nat
def tw14062999672857452740:=Nat
def tw4211366645803545498:=Nat
def tw7948663677701183203:=Nat
def tw13371692415267405888:=Nat
def tw1769341134680119531:=Nat
def tw3733050855299373810:=Nat
def tw8570296134114448462:=Nat
def tw6373867405690492874:=Nat
def tw78186682928187117:=Nat
def tw11676081354164553058:=Nat
def tw15153502317505520088:=Nat
def tw2023069062107775263:=Nat
def tw17089450738613653050:=Nat
def tw14419794692301051348:=Nat
def tw2204216557625884407:=Nat
def tw13411810784297140538:=Nat
def tw478640352147743555:=Nat
def tw8136953027349089512:=Nat
def tw5142214249605626287:=Nat
def tw1699041145253476440:=Nat
def tw15973946532063159077:=Nat
def tw9231420170663335749:=Nat
def tw17462868779890213421:=Nat
def tw8319185325845424532:=Nat
def tw2900722250609768738:=Nat
def tw17900391796328155969:=Nat
def tw10210866510526860632:=Nat
def tw7085108215081889058:=Nat
def tw8981419377342811274:=Nat
def tw7461867863123568605:=Nat
def tw7721752350210709810:=Nat
def tw6364564878018039546:=Nat
def tw6029768187365054529:=Nat
def tw17410566946108166736:=Nat
def tw15283396403371450678:=Nat
def tw13127133033294158999:=Nat
def tw10461587762780130230:=Nat
def tw13665740135694582868:=Nat
def tw268655842372582038:=Nat
def tw1856190612062039392:=Nat
def tw3441000190683387180:=Nat
def tw7333613964363170435:=Nat
def tw9936909872039378904:=Nat
def tw11422025344903320036:=Nat
def tw13467626466209268488:=Nat
def tw15807720858546063382:=Nat
def tw18289023381109700465:=Nat
def tw14573118138768430621:=Nat
def tw8506911797964868257:=Nat
def tw16231000977315235613:=Nat
def tw17174455475665122359:=Nat
def tw8079154063608225368:=Nat
def tw12440828233802058155:=Nat
def tw9258058304311207029:=Nat
def tw356958283275359291:=Nat
def tw9646294084613548095:=Nat
def tw15230963286205916470:=Nat
def tw7419444156347823093:=Nat
def tw8748662156100935047:=Nat
def tw17667320529662544824:=Nat
def tw9845639983251559927:=Nat
def tw13028464764621369267:=Nat
def tw2417388975145664352:=Nat
def tw3705239527862955604:=Nat
def tw17523855371288886164:=Nat
def tw2915569111038401122:=Nat
def tw9167367269563197328:=Nat
def tw13048727725021205210:=Nat
def tw5596929286396711993:=Nat
def tw9282219921120131949:=Nat
def tw14948397146847461291:=Nat
def tw2062604808791477835:=Nat
def tw8069135538541904658:=Nat
def tw8153126701048777385:=Nat
def tw8462571790445669929:=Nat
def tw5260553873859705577:=Nat
def tw18425986643952236605:=Nat
def tw5928745099881823284:=Nat
def tw5994528848304312297:=Nat
def tw16196088113664314707:=Nat
def tw13401977769597944163:=Nat
def tw3066712876440511803:=Nat
def tw12339908313537015604:=Nat
def tw5755022341228465224:=Nat
def tw13245907891820860059:=Nat
def tw15438323747166488850:=Nat
def tw466992062076697610:=Nat
def tw10188290455572573867:=Nat
def tw13448385629768654033:=Nat
def tw7653987587116561208:=Nat
def tw7737927359660400033:=Nat
def tw4503811440172310735:=Nat
def tw8666896458412060679:=Nat
def tw10453189337846328120:=Nat
def tw2782755682489320491:=Nat
def tw4399911158012566221:=Nat
def tw11733389921071721460:=Nat
def tw16545906023126589894:=Nat
def tw12698518152634464063:=Nat
def tw7605194330735196262:=Nat
def tw5149975099455130700:=Nat
def tw12090093848514759020:=Nat
def tw13912251510028988983:=Nat
def tw3795765963027927852:=Nat
def tw3661904249029835211:=Nat
def tw3708650271603382228:=Nat
def tw6790943154079035234:=Nat
def tw3469525096476110983:=Nat
def tw673614173830927542:=Nat
def tw4299319867865307286:=Nat
def tw14609528406348235946:=Nat
def tw12848215667921226519:=Nat
def tw3875034257599304696:=Nat
def tw15366717671470508108:=Nat
def tw1939729109332657848:=Nat
def tw4137465765142512511:=Nat
def tw14336520526260964078:=Nat
def tw12513426361451234842:=Nat
def tw7709763413249743171:=Nat
def tw16039158835943350675:=Nat
def tw5337842312649744721:=Nat
def tw12775650943219211975:=Nat
def tw13331383380058103625:=Nat
def tw12584541773778945559:=Nat
def tw8352082903933113118:=Nat
def tw15680133613430742223:=Nat
def tw175477711222374551:=Nat
def tw11100731598332163770:=Nat
def tw14033419268452412260:=Nat
def tw3367473144407990987:=Nat
def tw4686361452202857434:=Nat
def tw11502160197719366649:=Nat
def tw6299856221143655210:=Nat
def tw7013075003659733104:=Nat
def tw17035953118712528104:=Nat
def tw2474547780182410840:=Nat
def tw6955005528837310718:=Nat
def tw369237180677726770:=Nat
def tw560855340691128038:=Nat
def tw8230609816065889494:=Nat
def tw4174049752255872558:=Nat
def tw6635310855052110885:=Nat
def tw8551261762043058423:=Nat
def tw10043388397953582261:=Nat
def tw18006175764107155168:=Nat
def tw17852968179368876511:=Nat
def tw12289716176518235968:=Nat
end PySem.W.Fast
open PySem PySem.W PyProof.Rows
set_option maxRecDepth 100000 in
theorem PySem.Challenge.cw_stayprice_k64_whole_off_and_why_holds : PySem.Challenge.rw_stayprice_k64_whole_off_and_why.Holds := by
 w_on;o_law;k_head;(case hw=>w_witness2)
 k_fill
 refine K64.walk (l:=PySem.Challenge.rw_stayprice_k64_whole_off_and_why) (c:=(447:Nat)) rfl rfl (λw h Y=>PySem.W.km_in_of Y) (λw h Y=>PySem.W.km_tabs_of Y _ (zZ1.mpr rfl)) ?hno ?htab ?hF
 case hno=>intro w;kernel_rfl
 case htab=>intro w;exact⟨_,_,by k_is,rfl,rfl,rfl⟩
 case hF=>
  intro w mg d h a G b
  refine' K64.all_mk a G b (K64.mkG a G ?_ (K64.mkF ?_ ?_ ?_)) (K64.mkG a G ?_ (K64.mkF ?_ ?_ ?_)) (K64.mkG a G ?_ (K64.mkF ?_ ?_ ?_)) (K64.mkG a G ?_ (K64.mkF ?_ ?_ ?_)) (K64.mkG a G ?_ (K64.mkF ?_ ?_ ?_)) (K64.mkG a G ?_ (K64.mkF ?_ ?_ ?_)) (K64.mkG a G ?_ (K64.mkF ?_ ?_ ?_)) (K64.mkG a G ?_ (K64.mkF ?_ ?_ ?_)) (K64.mkG a G ?_ (K64.mkF ?_ ?_ ?_)) (K64.mkG a G ?_ (K64.mkF ?_ ?_ ?_)) (K64.mkG a G ?_ (K64.mkF ?_ ?_ ?_)) (K64.mkG a G ?_ (K64.mkF ?_ ?_ ?_)) (K64.mkG a G ?_ (K64.mkF ?_ ?_ ?_)) (K64.mkG a G ?_ (K64.mkF ?_ ?_ ?_)) (K64.mkG a G ?_ (K64.mkF ?_ ?_ ?_)) (K64.mkG a G ?_ (K64.mkF ?_ ?_ ?_)) (K64.mkG a G ?_ (K64.mkF ?_ ?_ ?_)) (K64.mkG a G ?_ (K64.mkF ?_ ?_ ?_)) (K64.mkG a G ?_ (K64.mkF ?_ ?_ ?_)) (K64.mkG a G ?_ (K64.mkF ?_ ?_ ?_)) (K64.mkG a G ?_ (K64.mkF ?_ ?_ ?_)) (K64.mkG a G ?_ (K64.mkF ?_ ?_ ?_)) ?_ ?_ ?_ ?_ (K64.mkG a G ?_ (K64.mkF ?_ ?_ ?_)) (K64.mkG a G ?_ (K64.mkF ?_ ?_ ?_)) (K64.mkG a G ?_ (K64.mkF ?_ ?_ ?_)) (K64.mkG a G ?_ (K64.mkF ?_ ?_ ?_)) (K64.mkG a G ?_ (K64.mkF ?_ ?_ ?_)) (K64.mkG a G ?_ (K64.mkF ?_ ?_ ?_)) (K64.mkG a G ?_ (K64.mkF ?_ ?_ ?_)) (K64.mkG a G ?_ (K64.mkF ?_ ?_ ?_)) (K64.mkG a G ?_ (K64.mkF ?_ ?_ ?_)) (K64.mkG a G ?_ (K64.mkF ?_ ?_ ?_)) (K64.mkG a G ?_ (K64.mkF ?_ ?_ ?_)) (K64.mkG a G ?_ (K64.mkF ?_ ?_ ?_)) (K64.mkG a G ?_ (K64.mkF ?_ ?_ ?_)) (K64.mkG a G ?_ (K64.mkF ?_ ?_ ?_)) (K64.mkG a G ?_ (K64.mkF ?_ ?_ ?_)) (K64.mkG a G ?_ (K64.mkF ?_ ?_ ?_)) (K64.mkG a G ?_ (K64.mkF ?_ ?_ ?_)) (K64.mkG a G ?_ (K64.mkF ?_ ?_ ?_)) (K64.mkG a G ?_ (K64.mkF ?_ ?_ ?_)) (K64.mkG a G ?_ (K64.mkF ?_ ?_ ?_)) (K64.mkG a G ?_ (K64.mkF ?_ ?_ ?_)) (K64.mkG a G ?_ (K64.mkF ?_ ?_ ?_)) ?_ ?_ ?_ ?_ ?_ ?_ ?_ ?_ ?_ ?_ ?_ (K64.mkR ?_ ?_ ?_ ?_ ?_ ?_ ?_ ?_ ?_ ?_ ?_ ?_ ?_ ?_ ?_ ?_ ?_ ?_ ?_ ?_) (K64.mkR ?_ ?_ ?_ ?_ ?_ ?_ ?_ ?_ ?_ ?_ ?_ ?_ ?_ ?_ ?_ ?_ ?_ ?_ ?_ ?_) (K64.mkR ?_ ?_ ?_ ?_ ?_ ?_ ?_ ?_ ?_ ?_ ?_ ?_ ?_ ?_ ?_ ?_ ?_ ?_ ?_ ?_) (K64.mkR ?_ ?_ ?_ ?_ ?_ ?_ ?_ ?_ ?_ ?_ ?_ ?_ ?_ ?_ ?_ ?_ ?_ ?_ ?_ ?_) (K64.mkR ?_ ?_ ?_ ?_ ?_ ?_ ?_ ?_ ?_ ?_ ?_ ?_ ?_ ?_ ?_ ?_ ?_ ?_ ?_ ?_) (K64.mkR ?_ ?_ ?_ ?_ ?_ ?_ ?_ ?_ ?_ ?_ ?_ ?_ ?_ ?_ ?_ ?_ ?_ ?_ ?_ ?_) (K64.mkR ?_ ?_ ?_ ?_ ?_ ?_ ?_ ?_ ?_ ?_ ?_ ?_ ?_ ?_ ?_ ?_ ?_ ?_ ?_ ?_) (K64.mkF ?_ ?_ ?_) (K64.mkF ?_ ?_ ?_) (K64.mkF ?_ ?_ ?_) (K64.mkF ?_ ?_ ?_) (K64.mkF ?_ ?_ ?_) (K64.mkF ?_ ?_ ?_) (K64.mkF ?_ ?_ ?_) (K64.mkF ?_ ?_ ?_) (K64.mkF ?_ ?_ ?_) (K64.mkF ?_ ?_ ?_) ?_ ?_ ?_ ?_ ?_ ?_ ?_ ?_ ?_ (K64.mkF ?_ ?_ ?_) ?_ ?_ (K64.mkF ?_ ?_ ?_) ?_ ?_ ?_ ?_ ?_ ?_ ?_ ?_ ?_ ?_ ?_ ?_ ?_ ?_ ?_ ?_ ?_ ?_ ?_ ?_ ?_ ?_ ?_ ?_ ?_ ?_ ?_ ?_ ?_ ?_ ?_ ?_ ?_ ?_ ?_ ?_ ?_ ?_ ?_ ?_ ?_ ?_ ?_ ?_ ?_ ?_
  all_goals try (show _=_;first|k_is|kernel_rfl)
