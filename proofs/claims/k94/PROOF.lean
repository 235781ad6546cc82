import PyProof.Rows.All
import Wide.All
import OpenK.AllK
import Wide.FinOn
import Lean
import PyProof.EqAt
import PyProof.EqKinds
import PyProof.TupleCall
import PyProof.AttrMissHeap
import PyProof.DictRoadsH
import KE.KDictOf
import PyProof.P3In
import PySem.Challenge.RW_stayprice_k94_whole_lifted_by_rules
set_option maxHeartbeats 0
set_option linter.all false
set_option Elab.async false
def zX5:=@PySem.wpAny_bind
def zX6:=@PySem.Heap.get?_push_of_some
def zX7:=@List.length_map
def zX8:=@Nat.lt_of_lt_of_le
def zX9:=@List.getElem?_eq_some_iff
def zY0:=@List.getElem?_eq_getElem
def zY1:=@Nat.le_refl
def zY2:=@List.mem_singleton
def zY3:=@PySem.wpAny_pure
def zY4:=@List.mem_cons
def zY5:=@PySem.Heap.lt_size
def zY6:=@List.mem_cons_of_mem
def zY7:=@PySem.Heap.get?_push_size
def zY8:=@Nat.le_trans
def zY9:=@List.mem_cons_self
def zZ0:=@List.size_toArray
def zZ1:=@List.getElem?_map
def zZ2:=@PySem.Heap.get?_update_other
def zZ3:=@Nat.le_add_right
def zZ4:=@Nat.zero_le
def zZ5:=@Nat.le_of_eq
def zZ6:=@Option.map_eq_some_iff
def zZ7:=@Nat.ne_of_lt
def zZ8:=@List.not_mem_nil
def zZ9:=@List.length_append
def z00:=@List.length_cons
def z01:=@List.mem_append
def z02:=@Nat.lt_of_le_of_lt
def z03:=@List.map_cons
def z04:=@Bool.false_ne_true
def z05:=@List.mem_append_right
def z06:=@decide_eq_false
def z07:=@Option.some.inj
def z08:=@List.getD_eq_getElem?_getD
def z09:=@PySem.W.mg_none_of
def z21:=@Bool.and_eq_true
def z22:=@List.getElem?_append_left
def z23:=@List.mem_of_getElem?
def z24:=@Ne.symm
def z25:=@Nat.add_lt_add_left
def z26:=@PySem.wpAny_mono
def z27:=@Bool.false_eq_true
def z28:=@decide_eq_true
def z29:=@PySem.sizeLine_eq
def z30:=@PyProof.Rows.callWith_type1
def z31:=@List.length_set
def z32:=@or_false
def z33:=@Nat.lt_irrefl
def z34:=@PySem.wpAny_holding
def z35:=@PySem.W.mg_of
def z36:=@Nat.le_of_lt
def z37:=@List.nil_append
def z38:=@List.getElem?_append_right
def z39:=@List.map_append
def z40:=@List.take_length
def z41:=@List.mem_append_left
def z42:=@List.lookup_cons
def z43:=@decide_eq_false_iff_not
def z44:=@decide_eq_true_eq
def z45:=@List.take_add_one
def z46:=@List.length_take
def z47:=@PySem.mem_of_lookup
def z48:=@PySem.Heap.get?_update_self
def z49:=@PySem.wpAny_seqItems
def z50:=@List.getElem?_set_ne
def z51:=@List.append_nil
def z52:=@Nat.lt_succ_self
def z53:=@PySem.wpAny_truthy_bool
def z54:=@PySem.Heap.size_push
def z55:=@List.map_map
def z56:=@Nat.le_of_ble_eq_true
def z57:=@List.length_filter_le
def z58:=@List.mem_filter
def z59:=@PySem.W.kia_one
def z60:=@List.find?_cons
def z61:=@PyProof.Rows.get?_update_seq
def z62:=@Nat.lt_add_of_pos_right
def z63:=@Array.getElem?_eq_some_iff
def z64:=@Nat.le_succ
def z65:=@PySem.wpAny_field
def z66:=@PySem.F.plain_min_loop
def z67:=@PySem.wpAny_pyIter_list
def z68:=@of_decide_eq_true
def z69:=@PySem.F.plain_extend_loop
def z70:=@PySem.F.slot_zip_next
def z71:=@Nat.ne_of_gt
def z72:=@PySem.wpAny_Call_Name_kw
def z73:=@if_false
def z74:=@List.mem_map
def z75:=@PySem.Around.under_plainId
def z76:=@Nat.le_of_lt_succ
def z77:=@PySem.wpAny_loadPart_at
def z78:=@PySem.wpAny_updateSeq
def z79:=@beq_eq_false_iff_ne
def z80:=@List.length_reverse
def z81:=@PySem.Heap.SameBut.update
def z82:=@PySem.wpAny_nextOf_list_item
def z83:=@List.any_cons
def z84:=@PySem.plainId_quiet
def z85:=@PySem.F.excBase_ValueError
def z86:=@Nat.le_of_not_lt
def z87:=@Nat.le_antisymm
def z88:=@Bool.and_eq_true_iff
def z89:=@Nat.lt_succ_of_lt
def z90:=@Bool.not_eq_true'
def z91:=@List.getElem?_replicate
def z92:=@Int.eq_ofNat_of_zero_le
def z93:=@List.getElem_mem
def z94:=@List.getElem?_set_self
def z95:=@PySem.wpAny_letGo
def z96:=@PySem.W.callWith_K
def z97:=@Nat.lt_or_ge
def z98:=@PySem.Obj.data_mapFields
def z99:=@PySem.wpAny_passesOwn
def ya0:=@Bool.eq_iff_iff
def ya1:=@PySem.codeAny_builtin
def ya2:=@PySem.builtinLookup_eq_fast
def ya3:=@PySem.Obj.isFreed_of_fields
def ya4:=@List.drop_eq_getElem_cons
def ya5:=@List.mem_of_find?_eq_some
def ya6:=@Int.le_refl
def ya7:=@List.lt_irrefl
def ya8:=@List.all_eq_true
def ya9:=@List.filter_cons
def yb0:=@List.mem_reverse
def yb1:=@List.any_eq_true
def yb2:=@if_true
def yb3:=@PyProof.Rows.listUpdate_at
def yb4:=@Bool.or_eq_true
def yb5:=@PySem.wpAny_ite_split
def yb6:=@Int.emod_lt_of_pos
def yb7:=@List.find?_eq_none
def yb8:=@Bool.false_and
def yb9:=@PySem.codeAny_mono
def yc0:=@List.length_singleton
def yc1:=@List.getElem?_toArray
def yc2:=@List.getElem?_eq_none
def yc3:=@Nat.sub_self
def yc4:=@PySem.wpAny_eqBool_int
def yc5:=@PySem.Heap.get?_none_of_le
def yc6:=@beq_iff_eq
def yc7:=@PySem.wpAny_call
def yc8:=@Bool.or_eq_false_iff
def yc9:=@List.cons_append
def yd0:=@PySem.wpAny_call_entry
def yd1:=@PySem.wpAny_standAt
def yd2:=@Bool.or_false
def yd3:=@Array.length_toList
def yd4:=@List.take_succ_cons
def yd5:=@PySem.wpAny_execs_nil
def yd6:=@List.forIn_cons
def yd7:=@Array.Perm.refl
def yd8:=@PySem.wpAny_specialOf
def yd9:=@PySem.F.slot_dict_getitem
def ye0:=@PySem.typeLookup_type
def ye1:=@List.length_nil
def ye2:=@Int.emod_nonneg
def ye3:=@Option.isSome_iff_exists
def ye4:=@Nat.succ_pos
def ye5:=@PySem.wpAny_setField_rec
def ye6:=@PySem.tupleKind_room_in1
def ye7:=@PySem.F.slot_list_getattribute
def ye8:=@PySem.Code.quiet_builtin
def ye9:=@PySem.boot_len
def yf0:=@PySem.wpAny_tryCatch
def yf1:=@Nat.mul_le_mul
def yf2:=@PySem.F.plainAttrs_list
def yf3:=@List.getElem?_cons_succ
def yf4:=@PySem.wpAny_callSpecial?_slot
def yf5:=@PySem.F.args_zip_next_1
def yf6:=@List.any_eq_false
def yf7:=@Int.toNat_natCast
def yf8:=@PySem.Heap.get?_push_ne
def yf9:=@PySem.F.entry_zip_next
def yg0:=@PySem.F.entry_min_loop
def yg1:=@List.take_of_length_le
def yg2:=@PySem.strLen_append
def yg3:=@Bool.true_and
def yg4:=@Nat.min_le_right
def yg5:=@List.length_drop
def yg6:=@List.drop_length
def yg7:=@PySem.W.methodCall_KW
def yg8:=@List.length_replicate
def yg9:=@List.set_append_right
def yh0:=@Bool.and_eq_false_iff
def yh1:=@Int.ne_of_gt
def yh2:=@List.nodup_cons
def yh3:=@PySem.wpAny_loadPart'
def yh4:=@Int.not_le
def yh5:=@Nat.zero_add
def yh6:=@PySem.wpAny_typeOf
def yh7:=@Option.map_some
def yh8:=@PySem.PassesOwn.never
def yh9:=@List.find?_some
def yi0:=@List.filterMap_cons
def yi1:=@PySem.W.plainGet_of
def yi2:=@List.forIn_nil
def yi3:=@Int.natCast_nonneg
def yi4:=@List.forIn_toArray
def yi5:=@List.filter_filter
def yi6:=@List.all_cons
def yi7:=@Bool.false_or
section
variable {a b c d e f g A B C D E F G H I J K L:Nat}{p q r s t u v w P Q R S T U V W:Int}
theorem om0 (h:a<b):b-(a+1)<b-a:=by lia
theorem om5 (h:0=a-b)(i:b<=a):b=a:=by lia
theorem om6 (h:a+1=b-c):c<b:=by omega
theorem om7 (h:a+b=c-d):a=c-(d+b):=by omega
theorem om9 (h:(a:Int)<(b:Int)):a<b:=by omega
theorem zV5 (h:a+64<b):a+1<b:=(Nat.lt_trans (z25 (by decide) a) h)
theorem zV1 (h:a<=1000):((min b a:Nat):Int)<=1000:=by lia
theorem fq (h:a<64):a<=16777216:=(z36 (Nat.lt_trans h (by decide:(64:Nat)<(16777216:Nat))))
theorem zW9 (h:p<=q)(i:r<=s):p+r<=s+q:=by lia
theorem zX2 (h:(a:Int)=(b:Int)):a=b:=by lia
theorem zR7 (h:a<=b+c)(i:b<=d+e):a<=d+(c+e):=by lia
theorem zK2 (h:a+64<b)(i:c<=60):a+1+min d c<b:=by lia
theorem zP2 (h:a<=b)(i:c<=b):max a c<=b:=by lia
theorem zz7 (h:a<=7):a+1<=8:=(z02 h (by decide:(7:Nat)<(8:Nat)))
theorem zu0 (h:a+b<=c)(i:d<=e+b)(j:e<=a):d<=c:=by lia
theorem zS9 (h:a+1+1<2):False:=by lia
theorem zy4 (h:2<=a)(i:a=b):0<b:=(zX8 (by decide:(0:Nat)<(2:Nat)) (zY8 h (zZ5 i)))
theorem iU (h:a+(b+c)<=d):a+c+b<=d:=by lia
theorem zz3 (h:a<b+1)(i:¬a=b):a<b:=by lia
theorem zS7 :a+(b+c)=a+c+b:=by lia
theorem zR8 (h:p<=q):p+(((q-p).toNat:Nat):Int)=q:=by omega
theorem zs4 (h:a+max b c<d):a+c<d:=by lia
theorem zR0 (h:a+b+c=d+b+e):a+c=d+e:=by lia
theorem zQ0 (h:a+b=a+c):¬c<b:=by lia
theorem zO6 (h:0+a=b+1+c):c<a:=by lia
theorem zN4 (h:a+b=0+c):¬c<b:=by lia
theorem zR6 (h:a=b)(i:c=d):b+c=d+a:=by lia
theorem zu4 (h:a-b=0)(i:b<=a):b=a:=by omega
theorem zx5 (h:a-b=c+1):b<a:=by omega
theorem cN (h:a-b=c+d):a-(b+d)=c:=by omega
theorem sv (h:a<b):b-1<b:=by lia
theorem zO9 (h:a<=b):(a:Int)-(b:Int)<=0:=by lia
theorem zM6 (h:a=16777216)(i:b<=a):¬(b:Int)≥2^63:=by lia
theorem zR9 (h:a=16777216)(i:b<=a):b<=1099511627776:=(z36 (z02 i (z02 (zZ5 h) (by decide:(16777216:Nat)<(1099511627776:Nat)))))
theorem cP (h:a=16777216)(i:b=c)(j:b<=a):(c:Int)<2^63:=by lia
theorem zz0 (h:a+3*(b+c)+d<e):a+c+3*b+d<e:=by lia
theorem zt3 (h:a+16*(b+c)+200<d):a+c+16*b+200<d:=by lia
theorem zS0 (h:a=b)(i:b<=c):a+(c-a)=c:=by lia
theorem dr (h:a<2^63)(i:p<(b:Int))(j:b<=a):p<2^63:=by lia
theorem dY (h:(-(a:Int))<=p)(i:a<=b)(j:b<2^63):(-(2^63))<=p:=by lia
theorem zx4 (h:p<0):max 0 (min (p+q) q)=(((p+q).toNat:Nat):Int):=by lia
theorem zt9 :max 0 (min p (a:Int))=((min p.toNat a:Nat):Int):=by lia
theorem zt2 (h:a<2^63)(i:b=c)(j:b<=a):(c:Int)<2^63:=by lia
theorem zw9 (h:a+b<=c)(i:a=d)(j:b=e):d+e<=c:=by lia
theorem zu1 (h:a<=b)(i:¬a=b):a<=b-1:=by lia
theorem zw0 (h:a<1)(i:b<=a):b=0:=by lia
theorem zt8 (h:a<1):a=0:=by lia
theorem iG (h:a<=b+c+d):a<=b+(d+c):=by lia
theorem zy7 (h:a<b):b<=b-c+b-1-a+c:=by omega
theorem zx0 (h:a<b)(i:c<=a):c+b-1-a<b:=by omega
theorem zv3 (h:a-b<=c):a<=c+b:=by lia
theorem zx1 :¬(a<=b/\b<b):=by lia
theorem qt (h:a+1<=b+(0+1))(i:b<a+1):b=a:=by omega
theorem zy2 (h:a+b<=c+(d+b)):a<=c+d:=by lia
theorem zw7 :a<=a-b+(c+b):=by omega
theorem zz2 (h:a<b):0+b-1-c<b:=by omega
theorem cT (h:a<=b+(c-b))(i:b<=c):a<=c:=by omega
theorem zu8 (h:a<b):a<=b-1:=by omega
theorem zt7 (h:a>1):a-1<a:=by lia
theorem iV (h:a<b)(i:b<=c)(j:d<=1+(b-1)):d<=c:=by lia
theorem zx2 (h:a<b+1)(i:c<a):a-1<b:=by lia
theorem zT6 (h:a<=1000):a<=16777216:=(z36 (z02 h (by decide:(1000:Nat)<(16777216:Nat))))
theorem zv4 (h:a=b)(i:a<=100):b<=16777216:=(z36 (z02 (zZ5 h.symm) (z02 i (by decide:(100:Nat)<(16777216:Nat)))))
theorem cq :a<a+5\/a+5<a:=(.inl (z62 (by decide)))
theorem zv0 :a+4<a\/a<a+4:=(.inr (z62 (by decide)))
theorem de :a+4<a+5\/a+5<a+4:=(.inl (z25 (by decide) a))
theorem ze8 :a+1<a+5\/a+5<a+1:=(.inl (z25 (by decide) a))
theorem zc9 :a+1<a+4\/a+4<a+1:=(.inl (z25 (by decide) a))
theorem zz1 :a+4<a+1\/a+1<a+4:=(.inr (z25 (by decide) a))
theorem bA :a+2<a+5\/a+5<a+2:=(.inl (z25 (by decide) a))
theorem zy0 :a+2<a\/a<a+2:=(.inr (z62 (by decide)))
theorem zb1 :a+2<a+4\/a+4<a+2:=(.inl (z25 (by decide) a))
theorem zs1 :a+2<a+1\/a+1<a+2:=(.inr (z25 (by decide) a))
theorem zy5 :a+4<a+2\/a+2<a+4:=(.inr (z25 (by decide) a))
theorem aq :a+5<a+4\/a+4<a+5:=(.inr (z25 (by decide) a))
theorem zv6 :a+5<a+2\/a+2<a+5:=(.inr (z25 (by decide) a))
theorem zt1 :a+5<a+1\/a+1<a+5:=(.inr (z25 (by decide) a))
theorem zy1 :a+5<a\/a<a+5:=(.inr (z62 (by decide)))
theorem dW :a<a+4\/a+4<a:=(.inl (z62 (by decide)))
theorem zv1 :a<a+2\/a+2<a:=(.inl (z62 (by decide)))
theorem zw1 :a+1<a+2\/a+2<a+1:=(.inl (z25 (by decide) a))
theorem za9 :a+3<a+5\/a+5<a+3:=(.inl (z25 (by decide) a))
theorem zs3 :a+3<a\/a<a+3:=(.inr (z62 (by decide)))
theorem zv7 :a+3<a+1\/a+1<a+3:=(.inr (z25 (by decide) a))
theorem zs7 :a+3<a+2\/a+2<a+3:=(.inr (z25 (by decide) a))
theorem zy6 (h:(-(2^62))<=p):(-(2^63))<=p:=by lia
theorem zt0 (h:p<2^62):p<2^63:=by lia
end
set_option maxRecDepth 100000
namespace L2
open PySem PySem.Spec PyProof.Rows
abbrev Key :=Sum Int Str
def rh :Key->Value->Bool
 |.inl k,v=>Value.isInt k v
 |.inr x,v=>Value.isStrOf x v
def zV6 (w:World):Key->Int
 |.inl k=>hashInt k
 |.inr x=>hashStr w x
theorem zR :∀{k:Key}{v:Value},rh k v=true->(∃i t,k=Sum.inl i/\v=Value.int i t)\/(∃x t,k=Sum.inr x/\v=Value.str x t)
 |.inl i,v,h=>by
  obtain⟨t,e⟩:=Value.isInt_shape (k:=i) (v:=v) h;exact .inl ⟨i,t,rfl,e⟩
 |.inr x,v,h=>by
  obtain⟨t,e⟩:=Value.isStrOf_shape (x:=x) (v:=v) h;exact .inr ⟨x,t,rfl,e⟩
theorem gZ (i:Int)(t:Tok):rh (.inl i) (.int i t)=true:=by simp[rh,Value.isInt]
theorem gL (x:Str)(t:Tok):rh (.inr x) (.str x t)=true:=by simp[rh,Value.isStrOf]
theorem zG7 (a b:Int):decide ((Sum.inl a:Key)=Sum.inl b)=(a == b):=by
 by_cases e:a=b
 ·subst e;simp
 ·have h:¬(Sum.inl a:Key)=Sum.inl b:=λq=>e (Sum.inl.inj q);rw[z06 h];exact(z79.mpr e).symm
theorem zE1 (a b:Str):decide ((Sum.inr a:Key)=Sum.inr b)=decide (a=b):=by
 by_cases e:a=b
 ·subst e;simp
 ·have h:¬(Sum.inr a:Key)=Sum.inr b:=λq=>e (Sum.inr.inj q);rw[z06 h,z06 e]
theorem zA0 (a:Int)(b:Str):decide ((Sum.inl a:Key)=Sum.inr b)=false:=z06 (λq=>nomatch q)
theorem zH4 (a:Str)(b:Int):decide ((Sum.inr a:Key)=Sum.inl b)=false:=z06 (λq=>nomatch q)
def zJ (prog:Program)(w:World):PySem.KeyKind prog w Key where
 is:=rh
 hash:=zV6 w
 inj:=λv a b ha hb=>by
  rcases zR ha with⟨i,t,rfl,rfl⟩|⟨x,t,rfl,rfl⟩
  ·rcases zR hb with⟨j,u,rfl,e⟩|⟨y,u,rfl,e⟩
   ·injection e with e1 _;rw[e1]
   ·exact nomatch e
  ·rcases zR hb with⟨j,u,rfl,e⟩|⟨y,u,rfl,e⟩
   ·exact nomatch e
   ·injection e with e1 _;rw[e1]
 byValue:=λk v h=>by
  rcases zR h with⟨i,t,rfl,rfl⟩|⟨x,t,rfl,rfl⟩<;>rfl
 pyHash:=λc h=>by
  rcases zR c with⟨i,t,rfl,rfl⟩|⟨x,t,rfl,rfl⟩
  ·exact wpAny_pyHash_int h
  ·exact wpAny_pyHash_str h
 eqBool:=λd c h=>by
  rcases zR d with⟨i,t,rfl,rfl⟩|⟨x,t,rfl,rfl⟩
  ·rcases zR c with⟨j,u,rfl,rfl⟩|⟨y,u,rfl,rfl⟩
   ·rw[zG7]at h;exact yc4 h
   ·rw[zA0]at h;exact SeqAt.EqAt.int_str i t y u _ _ _ _ h
  ·rcases zR c with⟨j,u,rfl,rfl⟩|⟨y,u,rfl,rfl⟩
   ·rw[zH4]at h;exact SeqAt.EqAt.str_int x t j u _ _ _ _ h
   ·rw[zE1]at h;exact wpAny_eqBool_str h
 «strs»:=λk x t v h=>by
  rcases zR h with⟨i,u,rfl,e⟩|⟨y,u,rfl,e⟩
  ·exact nomatch e
  ·injection e with e1 _;subst e1;cases v<;>rfl
theorem my (prog:Program)(w:World)(i:Int)(t:Tok):(zJ prog w).is (.inl i) (.int i t)=true:=gZ i t
theorem lg (prog:Program)(w:World)(x:Str)(t:Tok):(zJ prog w).is (.inr x) (.str x t)=true:=gL x t
inductive V where
 |non|bl (b:Bool)|int (i:Int)|str (x:Str)|byt (b:Array UInt8)|flt (b:UInt64)|ref (a:Addr)|ty (n:String)
 deriving DecidableEq
def RelV :V->Value->Prop
 |.non,u=>u=Value.none
 |.bl b,u=>u=Value.bool b
 |.int i,u=>∃t,u=Value.int i t
 |.str x,u=>∃t,u=Value.str x t
 |.byt b,u=>∃t,u=Value.bytes b t
 |.flt b,u=>∃t,u=Value.float b t
 |.ref a,u=>u=Value.ref a
 |.ty n,u=>u=Value.type n
abbrev Vals :List V->List Value->Prop:=Paired RelV
theorem Vals.length {xs:List V}{us:List Value}(r:Vals xs us):xs.length=us.length:=Paired.length r
theorem Vals.get :∀{xs:List V}{us:List Value}{i:Nat}{x:V},Vals xs us->xs[i]?=some x->∃u,us[i]?=some u/\RelV x u
 |_,_,_,_,.nil,e=>by simp at e
 |_,_,0,_,.cons r _,e=>by simp at e;subst e;exact⟨_,rfl,r⟩
 |_,_,i+1,x,.cons _ t,e=>by
  obtain⟨u,b,a⟩:=Vals.get (i:=i) (x:=x) t (by simpa using e);exact⟨u,by simpa using b,a⟩
theorem Vals.set {x:V}{u:Value}(r:RelV x u):∀{xs:List V}{us:List Value} (i:Nat),Vals xs us->Vals (xs.set i x) (us.set i u)
 |_,_,_,.nil=>.nil
 |_,_,0,.cons _ t=>.cons r t
 |_,_,i+1,.cons q t=>.cons q (Vals.set r i t)
theorem Vals.append {xs ys:List V}{us ws:List Value}(h:Vals xs us)(s:Vals ys ws):Vals (xs++ys) (us++ws):=by
 induction h with
 |nil=>exact s
 |cons r _ a=>exact .cons r a
theorem Vals.take :∀{xs:List V}{us:List Value} (n:Nat),Vals xs us->Vals (xs.take n) (us.take n)
 |_,_,0,_=>.nil
 |_,_,_+1,.nil=>.nil
 |_,_,n+1,.cons r t=>.cons r (Vals.take n t)
theorem Vals.drop :∀{xs:List V}{us:List Value} (n:Nat),Vals xs us->Vals (xs.drop n) (us.drop n)
 |_,_,0,r=>r
 |_,_,_+1,.nil=>.nil
 |_,_,n+1,.cons _ t=>Vals.drop n t
def vJ :Option V->Option Value->Prop
 |some v,some u=>RelV v u
 |none,none=>True
 |_,_=>False
def KV {a:Type}:List (a×V)->List (a×Value)->Prop:=Paired λ(p:a×V) (q:a×Value)=>p.1=q.1/\RelV p.2 q.2
def kV :Key->V
 |.inl i=>.int i
 |.inr x=>.str x
inductive HO where
  |lst (xs:List V)
  |tup (xs:List V)
  |dK (kvs:List (Key×V))|dT (kvs:List (List Key×V))
  |set (S:Int->Bool) (n:Nat)
  |ins (C dx:Addr) (fs:List (Str×V))
  |own (x:Addr)
  |xd (fs:List (Str×V))
  |met (f x:Addr)
  |rng (lo hi:Int)
  |frz (o:Obj) (u:HO)
  |tbl (ps:Array Value)
  |ext (φ:Heap->Prop)
abbrev Hp :=Addr->Option HO
def upd (H:Hp)(a:Addr)(o:HO):Hp:=λb=>if b=a then some o else H b
theorem zf {H:Hp}{a:Addr}{o:HO}:upd H a o a=some o:=by unfold upd;rw[if_pos rfl]
theorem zc {H:Hp}{a b:Addr}{o:HO}(h:b≠a):upd H a o b=H b:=by unfold upd;rw[if_neg h]
theorem uh {H:Hp}{a:Addr}{o u:HO}:upd (upd H a o) a u=upd H a u:=by funext b;unfold upd;split<;>rfl
theorem cx {H:Hp}{a b:Addr}{o u:HO}(h:H a=some o)(h':H b=some u)(d:o≠u):a≠b:=by intro e;subst e;rw[h]at h';exact d (z07 h')
theorem zh {H:Hp}{a b:Addr}{o:HO}(h:H a=some o)(h':H b=none):a≠b:=by intro e;subst e;rw[h]at h';cases h'
section
variable (P:Program)(w:World)
def zA (H:Hp)(h:Heap)(a:Addr):HO->Prop
 |.lst xs=>xs.length<=sizeLine/\∃(its:List Value) (n:Nat),Vals xs its/\h.get? a=some {cls:=.type "list",data:=.seq its.toArray n}
 |.tup xs=>xs.length<=sizeLine/\∃its:List Value,Vals xs its/\IsTup h a its.toArray
 |.dK kvs=>kvs.length<=sizeLine/\(a == sysModules)=false/\∃vs,KV kvs vs/\h.DictOf (zJ P w) a vs
 |.dT kvs=>kvs.length<=sizeLine/\(a == sysModules)=false/\∃xs:List (List Key×Addr×Value),
   Paired (λ(p:List Key×V) (q:List Key×Addr×Value)=>p.1=q.1/\H q.2.1=some (.tup (p.1.map kV))/\RelV p.2 q.2.2) kvs xs/\
   ∃o c e,h.get? a=some o/\o.ExactDict/\o.data=.dict c e/\c.toList=xs.map (entryOfKey (tupleKind (zJ P w)))/\(xs.map (·.1)).Nodup
 |.set S n=>h.SetOf (intKind P w) a S n
 |.ins C dx fs=>H dx=some (.own a)/\fs.length<=1000/\dx≠a/\h.get? a=some (PySem.W.instObj C dx)/\
   ∃mA,h.Ns1 dx mA/\(∀f,vJ (fs.lookup f) (mA f))/\PySem.Within mA (fs.map (·.1))
 |.own _=>∃o,h.get? a=some o
 |.xd fs=>∃mA,h.Ns1 a mA/\∀f,vJ (fs.lookup f) (mA f)
 |.rng lo hi=>∃t u v,h.get? a=some {cls:=.type "range",data:=.fields #[.int lo t,.int hi u,.int 1 v]}
 |.frz o u=>h.get? a=some o/\zA H h a u
 |.tbl ps=>h.get? a=some {cls:=.none,data:=.fields ps}
 |.met f x=>h.get? a=some (PySem.W.methodObj (.ref f) (.ref x))
 |.ext φ=>φ h/\(∃o,h.get? a=some o)/\∀b d:Heap,φ b->(∀o,b.get? a=some o->d.get? a=some o)->φ d
def HOk (H:Hp)(h:Heap):Prop:=∀a o,H a=some o->zA P w H h a o
end
section
variable {P:Program}{w:World}{H H':Hp}{h h':Heap}{a:Addr}{o:HO}
theorem zA.lt (x:zA P w H h a o):a<h.objs.size:=by
 cases o with
 |lst xs=>obtain⟨_,_,_,_,e⟩:=x;exact zY5 e
 |tup xs=>obtain⟨_,_,_,p⟩:=x;exact p.lt
 |dK kvs=>obtain⟨_,_,_,_,o,_,_,e,_⟩:=x;exact zY5 e
 |dT kvs=>obtain⟨_,_,_,_,o,_,_,e,_⟩:=x;exact zY5 e
 |set S n=>obtain⟨o,_,_,_,e,_⟩:=x;exact zY5 e
 |ins C dx fs=>obtain⟨_,_,_,e,_⟩:=x;exact zY5 e
 |own y=>obtain⟨_,e⟩:=x;exact zY5 e
 |xd fs=>obtain⟨_,⟨_,_,_,e,_⟩,_⟩:=x;exact zY5 e
 |rng lo hi=>obtain⟨_,_,_,e⟩:=x;exact zY5 e
 |frz ob u=>obtain⟨e,_⟩:=x;exact zY5 e
 |tbl ps=>exact zY5 (show h.get? a=some _ from x)
 |met f y=>exact zY5 (show h.get? a=some _ from x)
 |ext φ=>obtain⟨_,⟨_,e⟩,_⟩:=x;exact zY5 e
theorem Paired.mapP {α β:Type}{F G:α->β->Prop}{d:List α}{c:List β}(h:Paired F d c)(f:∀a b,F a b->G a b):Paired G d c:=by
 induction h with
 |nil=>exact .nil
 |cons r _ e=>exact .cons (f _ _ r) e
theorem zA.stay (x:zA P w H h a o)(k:∀b u,(b=a\/H b=some (.own a))->h.get? b=some u->h'.get? b=some u)
  (s:∀b,H b=some (.own a)->H' b=some (.own a)) (j:∀b xs,H b=some (.tup xs)->H' b=some (.tup xs)):zA P w H' h' a o:=by
 induction o with
 |lst xs=>obtain⟨z,its,n,r,e⟩:=x;exact⟨z,its,n,r,k _ _ (.inl rfl) e⟩
 |tup xs=>obtain⟨z,its,r,ob,e,c⟩:=x;exact⟨z,its,r,ob,k _ _ (.inl rfl) e,c⟩
 |dK kvs=>obtain⟨z,y,vs,r,ob,i,g,e,c⟩:=x;exact⟨z,y,vs,r,ob,i,g,k _ _ (.inl rfl) e,c⟩
 |dT kvs=>
  obtain⟨z,y,xs,r,ob,i,g,e,c⟩:=x;exact⟨z,y,xs,Paired.mapP r λp q z=>⟨z.1,j _ _ z.2.1,z.2.2⟩,ob,i,g,k _ _ (.inl rfl) e,c⟩
 |set S n=>obtain⟨ob,i,g,t,e,c⟩:=x;exact⟨ob,i,g,t,k _ _ (.inl rfl) e,c⟩
 |ins C dx fs=>
  obtain⟨d,z,ne,e,mA,⟨od,i,g,m,c⟩,r⟩:=x;exact⟨s _ d,z,ne,k _ _ (.inl rfl) e,mA,⟨od,i,g,k _ _ (.inr d) m,c⟩,r⟩
 |own y=>obtain⟨ob,e⟩:=x;exact⟨ob,k _ _ (.inl rfl) e⟩
 |xd fs=>obtain⟨mA,⟨od,i,g,e,c⟩,r⟩:=x;exact⟨mA,⟨od,i,g,k _ _ (.inl rfl) e,c⟩,r⟩
 |rng lo hi=>obtain⟨t,u,v,e⟩:=x;exact⟨t,u,v,k _ _ (.inl rfl) e⟩
 |frz ob u l=>obtain⟨e,q⟩:=x;exact⟨k _ _ (.inl rfl) e,l q⟩
 |tbl ps=>
  have e:h.get? a=some {cls:=.none,data:=.fields ps}:=x;show h'.get? a=some {cls:=.none,data:=.fields ps};exact k a _ (.inl rfl) e
 |met f y=>
  have e:h.get? a=some (PySem.W.methodObj (.ref f) (.ref y)):=x;show h'.get? a=some (PySem.W.methodObj (.ref f) (.ref y));exact k a _ (.inl rfl) e
 |ext φ=>obtain⟨p,⟨o,e⟩,st⟩:=x;exact⟨st _ _ p λo q=>k _ _ (.inl rfl) q,⟨o,k _ _ (.inl rfl) e⟩,st⟩
theorem HOk.lt (x:HOk P w H h)(e:H a=some o):a<h.objs.size:=(x a o e).lt
theorem HOk.fresh (x:HOk P w H h)(e:h.objs.size<=a):H a=none:=by
 cases q:H a with
 |none=>rfl
 |some u=>exact absurd (zX8 (x.lt q) e) (z33 _)
theorem HOk.kept (x:HOk P w H h)(k:∀b u,h.get? b=some u->h'.get? b=some u):HOk P w H h':=λa o e=>
 (x a o e).stay (λb u _ q=>k b u q) (λ_ q=>q) λ_ _ q=>q
theorem HOk.laid (x:HOk P w H h)(k:∀b u,h.get? b=some u->h'.get? b=some u)(d:h.objs.size<=a)(new:zA P w (upd H a o) h' a o):HOk P w (upd H a o) h':=λb u e=>by
 have hn:=x.fresh d;by_cases hb:b=a
 ·subst hb;rw[zf]at e;cases e;exact new
 ·rw[zc hb]at e;exact(x b u e).stay (λc v _ q=>k c v q) (λc q=>by rw[zc (zh q hn)];exact q) λc xs q=>by rw[zc (zh q hn)];exact q
end
def Rd (H:Hp)(a:Addr)(u:HO):Prop:=H a=some u\/∃o,H a=some (.frz o u)
theorem Rd.ok {P:Program}{w:World}{H:Hp}{h:Heap}{a:Addr}{u:HO}(r:Rd H a u)(x:HOk P w H h):zA P w H h a u:=by
 rcases r with r|⟨o,r⟩
 ·exact x a u r
 ·obtain⟨_,q⟩:=x a _ r;exact q
def Mut :Option HO->Prop
 |some (.lst _)=>True
 |some (.dK _)=>True
 |some (.dT _)=>True
 |some (.set _ _)=>True
 |some (.ins _ _ _)=>True
 |some (.ext _)=>True
 |_=>False
section
variable {P:Program}{w:World}{H:Hp}{h h':Heap}{x e:Addr}{o':HO}
theorem HOk.write (ok:HOk P w H h)(i:Mut (H x))(he:e=x\/H e=some (.own x))(k:∀b u,b≠e->h.get? b=some u->h'.get? b=some u)(j:∃u,h'.get? e=some u)
  (new:zA P w (upd H x o') h' x o'):HOk P w (upd H x o') h':=λb u q=>by
 have d:∀c y,H c=some (.own y)->c≠x:=λc y r z=>by subst z;rw[r]at i;exact i
 have f:∀c xs,H c=some (.tup xs)->c≠x:=λc xs r z=>by subst z;rw[r]at i;exact i
 by_cases hb:b=x
 ·subst hb;rw[zf]at q;cases q;exact new
 ·rw[zc hb]at q;by_cases a:b=e
  ·have l:H b=some (.own x):=by
    rcases he with z|z
    ·exact absurd (a.trans z) hb
    ·rw[a];exact z
   rw[q]at l;cases l;obtain⟨v,m⟩:=j;exact⟨v,by rw[a];exact m⟩
  ·refine(ok b u q).stay (λc v g r=>k c v ?_ r) (λc r=>by rw[zc (d c b r)];exact r) λc xs r=>by rw[zc (f c xs r)];exact r
   rcases g with rfl|g
   ·exact a
   ·rintro rfl;rcases he with z|z
    ·exact d c b g z
    ·rw[g]at z;cases z;exact hb rfl
end
structure Un (fs ex:List Addr)(H H':Hp)(h h':Heap):Prop where
 keep:∀b o,h.get? b=some o->H b=none->b∉fs->b∉ex->h'.get? b=some o
 slot:∀b o,h.get? b=some o->H b=none->b∈fs->b∉ex->∃sl,h'.get? b=some {o with slots:=sl}
 free:∀b o,h.get? b=some o->H b=none->b∉ex->H' b=none
 there:∀b o,h.get? b=some o->b∉ex->∃o',h'.get? b=some o'
 tups:∀b xs,H b=some (.tup xs)->H' b=some (.tup xs)
 frzs:∀b o u,H b=some (.frz o u)->H' b=some (.frz o u)
 tbls:∀b ps,H b=some (.tbl ps)->∃more,H' b=some (.tbl (ps++more))
section
variable {fs fs' ex ex':List Addr}{H H1 H2:Hp}{h h1 h2 h':Heap}{a x e:Addr}{o:HO}
theorem Un.any (u:Un fs ex H H1 h h1){b:Addr}{ob:Obj}(q:h.get? b=some ob)(n:H b=none)(c:b∉ex):∃sl,h1.get? b=some {ob with slots:=sl}:=by
 by_cases hb:b∈fs
 ·exact u.slot b ob q n hb c
 ·exact⟨ob.slots,u.keep b ob q n hb c⟩
theorem Un.kept (k:∀b u,h.get? b=some u->h'.get? b=some u):Un fs ex H H h h':=
 ⟨λb ob q _ _ _=>k b ob q,λb ob q _ _ _=>⟨ob.slots,k b ob q⟩,λ_ _ _ n _=>n,λb ob q _=>⟨ob,k b ob q⟩,λ_ _ q=>q,λ_ _ _ q=>q,λ_ ps q=>⟨#[],by rw[q];simp⟩⟩
theorem Un.refl :Un fs ex H H h h:=Un.kept λ_ _ q=>q
theorem Un.laid (k:∀b u,h.get? b=some u->h'.get? b=some u)(c:h.objs.size<=a)(hn:H a=none):Un fs ex H (upd H a o) h h' where
 keep:=λb u q _ _ _=>k b u q
 slot:=λb u q _ _ _=>⟨u.slots,k b u q⟩
 free:=λb u q n _=>by rw[zc (zZ7 (zX8 (zY5 q) c))];exact n
 there:=λb u q _=>⟨u,k b u q⟩
 tups:=λb xs q=>by rw[zc (zh q hn)];exact q
 frzs:=λb u xs q=>by rw[zc (zh q hn)];exact q
 tbls:=λb ps q=>⟨#[],by rw[zc (zh q hn),q];simp⟩
theorem Un.write (d:Mut (H x))(he:e=x\/H e=some (.own x))(k:∀b u,b≠e->h.get? b=some u->h'.get? b=some u)(f:∃u,h'.get? e=some u):Un fs ex H (upd H x o) h h':=by
 have g:∀b,H b=none->b≠x:=λb n z=>by subst z;rw[n]at d;exact d
 have hb:∀b,H b=none->b≠e:=λb n z=>by
  subst z;rcases he with r|r
  ·exact g b n r
  ·rw[n]at r;cases r
 have hm:∀b u,H b=some u->¬Mut (some u)->b≠x:=λb u q nm z=>by subst z;rw[q]at d;exact nm d
 refine⟨λb u q n _ _=>k b u (hb b n) q,λb u q n _ _=>⟨u.slots,k b u (hb b n) q⟩,λb u q n _=>by rw[zc (g b n)];exact n,λb u q _=>?_,
  λb xs q=>by rw[zc (hm b _ q λz=>z)];exact q,λb u xs q=>by rw[zc (hm b _ q λz=>z)];exact q,λb ps q=>⟨#[],by rw[zc (hm b _ q λz=>z),q];simp⟩⟩
 by_cases c:b=e
 ·subst c;exact f
 ·exact⟨u,k b u c q⟩
end
def trk (h:Heap)(H:Hp):List Addr:=(List.range h.objs.size).filter λa=>(H a).isSome
def qg (h:Heap)(H:Hp):Heap:=PySem.W.hideAll h (trk h H)
theorem gX (h:Heap)(H:Hp):(qg h H).objs.size=h.objs.size:=PySem.W.hideAll_size _ _
theorem bY {h:Heap}{H:Hp}{b:Addr}{o:Obj}(e:h.get? b=some o)(n:H b=none):(qg h H).get? b=some o:=
 PySem.W.hideAll_get _ e λhm=>by
  have q:(H b).isSome=true:=(z58.mp hm).2;rw[n]at q;simp at q
theorem zn5 {h:Heap}{H:Hp}{b:Addr}{o:Obj}(e:(qg h H).get? b=some o):h.get? b=some o/\H b=none:=by
 have a:h.get? b=some o:=PySem.W.of_hideAll (trk h H) e;refine⟨a,?_⟩;cases q:H b with
 |none=>rfl
 |some x=>
  have hm:b∈trk h H:=z58.mpr ⟨List.mem_range.mpr (zY5 a),by simp[q]⟩;have z:(qg h H).get? b=none:=PySem.W.hideAll_none (trk h H) hm;rw[z]at e;cases e
structure Mod (K:PySem.W.Frag)(mg:Str->Option Value)(base:Heap):Prop where
 kin:K.In base
 glob:base.Ns mainGlobals mg
 blt:∃mb,base.Ns builtinsNs mb/\∀x:Str,x≠"__name__"->mb x=bootBuiltins x
 nolimit:base.NoLimit
structure Cx where
 prog:Program
 w:World
 K:PySem.W.Frag
 mg:Str->Option Value
 base:Heap
 A:Around
 N:List Str
 s₀:Shared
 H₀:Hp
 env:Env
 outer:List Env
 stack:List Env
 ex:List Addr
 fn:Str->Bool
 calm:Bool
 pn:List (Addr×Obj)
 xe:Value->Shared->Prop
def frs (l:List Env):List Addr:=l.filterMap (·.frame)
abbrev Cx.fs (X:Cx):List Addr:=frs X.outer
def Vis (sc:Scope)(x:Str):Prop:=sc.names.lookup x=some .local\/sc.names.lookup x=some .cell\/sc.names.lookup x=some .free
def Loc (sc:Scope)(x:Str):Prop:=sc.names.lookup x=some .local\/sc.names.lookup x=some .cell
def Look (env:Env)(h:Heap)(m:Str->Option Value)(x:Str)(u:Value):Prop:=
 (env.kindOf x=some .local/\m x=some u)\/((env.kindOf x=some .cell\/env.kindOf x=some .free)/\∃c,env.cells.lookup x=some c/\h.IsCell c (some u))
structure Cx.Ok (X:Cx):Prop where
 mod:Mod X.K X.mg X.base
 kind:X.env.scope.kind=.function
 glob:X.env.globals=mainGlobals
 blt:X.env.builtins=builtinsNs
 above:X.s₀.heap.objs.size<=X.env.locals
 inj:∀x y c,X.env.cells.lookup x=some c->X.env.cells.lookup y=some c->x=y
 has:∀x,(X.env.kindOf x=some .cell\/X.env.kindOf x=some .free)->∃c,X.env.cells.lookup x=some c
 cab:∀x c,X.fn x=true->X.env.cells.lookup x=some c->X.s₀.heap.objs.size<=c
 hd:X.calm=true->X.A.handled=none
 frames:X.A.frames=some X.stack
 stk:X.stack=X.outer\/(X.stack=X.env::X.outer/\X.env.frame=some X.env.locals)
 exf:∀b∈X.ex,b≠X.env.locals/\∀x c,X.env.cells.lookup x=some c->c≠b
 bs:∀b o,X.base.get? b=some o->X.s₀.heap.get? b=some o/\X.H₀ b=none
 bsz:X.base.objs.size<=X.s₀.heap.objs.size
 noex:∀b o,X.base.get? b=some o->b∉X.ex
 exfs:∀b∈X.ex,b∉X.fs
 funs:X.s₀.heap.FunFrames X.base X.outer
 frf:∀b∈X.fs,X.H₀ b=none
structure Inv (X:Cx)(pins:List (Addr×Obj))(σ:List (Option V))(H:Hp)(s:Shared):Prop where
 ok:X.Ok
 os:s.os=X.s₀.os
 bare:AllBare s.gens
 base:Un X.fs X.ex X.H₀ H X.s₀.heap s.heap
 loc:∃m,s.heap.Ns X.env.locals m/\∀(i:Nat) (x:Str) (v:V),X.N[i]?=some x->σ[i]?=some (some v)->Vis X.env.scope x->∃u,RelV v u/\Look X.env s.heap m x u
 cell:∀x c,X.env.cells.lookup x=some c->∃v,s.heap.IsCell c v
 free:H X.env.locals=none
 freeC:∀x c,X.env.cells.lookup x=some c->H c=none
 pin:∀p∈X.pn++pins,s.heap.get? p.1=some p.2/\H p.1=none/\p.1≠X.env.locals/\p.1∉X.fs/\∀v,p.2.data≠.cell v
 hok:HOk X.prog X.w H s.heap
 len:σ.length=X.N.length
section
variable {X:Cx}{pins:List (Addr×Obj)}{σ:List (Option V)}{H H':Hp}{s:Shared}{h':Heap}
theorem Cx.Ok.nofr (ok:X.Ok){b:Addr}{o:Obj}(e:X.base.get? b=some o):b∉X.fs:=λhb=>by
 have:=(ok.funs.mem hb).1;rw[e]at this;cases this
theorem Inv.bs (I:Inv X pins σ H s):∀b o,X.base.get? b=some o->s.heap.get? b=some o/\H b=none:=λb o e=>
 ⟨I.base.keep b o (I.ok.bs b o e).1 (I.ok.bs b o e).2 (I.ok.nofr e) (I.ok.noex b o e),I.base.free b o (I.ok.bs b o e).1 (I.ok.bs b o e).2 (I.ok.noex b o e)⟩
theorem Inv.bk (I:Inv X pins σ H s):∀b o,X.base.get? b=some o->s.heap.get? b=some o:=λb o e=>(I.bs b o e).1
theorem Inv.mod (I:Inv X pins σ H s):Mod X.K X.mg X.base:=I.ok.mod
theorem Inv.kIn (I:Inv X pins σ H s):X.K.In s.heap:=I.ok.mod.kin.keeps I.bk
theorem Inv.lt (I:Inv X pins σ H s):X.env.locals<s.heap.objs.size:=let⟨_,hn,_⟩:=I.loc;hn.lt
theorem Inv.sz (I:Inv X pins σ H s):X.s₀.heap.objs.size<=s.heap.objs.size:=zY8 I.ok.above (z36 I.lt)
theorem Inv.nofs (I:Inv X pins σ H s){a:Addr}(h:s.heap.objs.size<=a):a∉X.fs:=λhb=>by
 obtain⟨_,o,b,_⟩:=I.ok.funs.mem hb;exact absurd (zX8 (zY5 b) (zY8 I.sz h)) (z33 _)
theorem Inv.cne (I:Inv X pins σ H s):∀x c,X.env.cells.lookup x=some c->c≠X.env.locals:=λx c e z=>by
 obtain⟨v,o,d,hd⟩:=I.cell x c e;obtain⟨m,⟨o',f,g,b,a,_⟩,_⟩:=I.loc;rw[z,b]at d;cases d;rw[a]at hd;cases hd
theorem Inv.funs (I:Inv X pins σ H s):s.heap.FunFrames X.base X.outer:=by
 have all:∀(l:List Env),(∀b∈frs l,b∈X.fs)->X.s₀.heap.FunFrames X.base l->s.heap.FunFrames X.base l:=by
  intro l
  induction l with
  |nil=>intro _ _;trivial
  |cons env r f=>
   intro c g;obtain⟨hk,⟨L,o,hf,hn,d,hd⟩,hr⟩:=g;have a:L∈X.fs:=c L (by unfold frs;rw[yi0,hf];exact zY9);obtain⟨sl,e⟩:=I.base.slot L o d (I.ok.frf L a) a λz=>I.ok.exfs L z a;exact⟨hk,⟨L,_,hf,hn,e,hd⟩,f (λb hb=>c b (by unfold frs;rw[yi0,hf];exact zY6 _ hb)) hr⟩
 exact all X.outer (λ_ hb=>hb) I.ok.funs
theorem Inv.stack (I:Inv X pins σ H s):s.heap.FunFrames X.base X.stack:=by
 rcases I.ok.stk with e|⟨e,hf⟩
 ·rw[e];exact I.funs
 ·rw[e];obtain⟨m,hn,_⟩:=I.loc;refine .cons (by rw[I.ok.kind];decide) hf hn ?_ I.funs;exact yc5 (zY8 I.ok.bsz I.ok.above)
theorem Inv.stkSub (I:Inv X pins σ H s):∀b∈frs X.stack,b∈X.env.locals::X.fs:=λb hb=>by
 rcases I.ok.stk with e|⟨e,hf⟩
 ·rw[e]at hb;exact zY6 _ hb
 ·rw[e]at hb;unfold frs at hb;rw[yi0,hf]at hb;exact hb
theorem Inv.stkFree (I:Inv X pins σ H s):∀b∈frs X.stack,H b=none:=λb hb=>by
 rcases zY4.mp (I.stkSub b hb)with e|hb
 ·rw[e];exact I.free
 ·obtain⟨_,o,a,_⟩:=I.ok.funs.mem hb;exact I.base.free b o a (I.ok.frf b hb) λz=>I.ok.exfs b z hb
theorem Inv.step {g':Array GenState}{t':Nat}{d':Drawn}{ch:List Addr}(I:Inv X pins σ H s)
  (g:∀b∈ch,(b∈X.ex\/X.s₀.heap.objs.size<=b)/\b≠X.env.locals/\(∀x c,X.env.cells.lookup x=some c->c≠b)/\∀p∈X.pn++pins,p.1≠b)
  (keep:∀b o,b≠X.env.locals->b∉X.fs->b∉ch->s.heap.get? b=some o->H b=none->h'.get? b=some o)
  (slot:∀b o,b≠X.env.locals->b∈X.fs->b∉ch->s.heap.get? b=some o->H b=none->∃sl,h'.get? b=some {o with slots:=sl}) (free:∀b o,b∉ch->s.heap.get? b=some o->H b=none->H' b=none)
  (there:∀b o,b∉ch->s.heap.get? b=some o->∃o',h'.get? b=some o')
  (tups:∀b xs,H b=some (.tup xs)->H' b=some (.tup xs)) (frzs:∀b o u,H b=some (.frz o u)->H' b=some (.frz o u)) (tbls:∀b ps,H b=some (.tbl ps)->∃more,H' b=some (.tbl (ps++more)))
  (ns:∀m,s.heap.Ns X.env.locals m->h'.Ns X.env.locals m) (hok:HOk X.prog X.w H' h') (hg:AllBare g'):
  Inv X pins σ H' {s with heap:=h',gens:=g',drawn:=d',toks:=t'}:=by
 have t:∀b o,X.s₀.heap.get? b=some o->b≠X.env.locals:=λb o e=>zZ7 (zX8 (zY5 e) I.ok.above);have h:∀b o,X.s₀.heap.get? b=some o->b∉X.ex->b∉ch:=λb o e a hb=>by
  rcases(g b hb).1 with z|z
  ·exact a z
  ·exact absurd (zX8 (zY5 e) z) (z33 _)
 have cellK:∀x c,X.env.cells.lookup x=some c->∀v,s.heap.IsCell c v->h'.IsCell c v:=λx c e v A=>by
  obtain⟨o,j,hd⟩:=A;have f:c∉ch:=λz=>(g c z).2.2.1 x c e rfl;by_cases D:c∈X.fs
  ·obtain⟨sl,q⟩:=slot c o (I.cne x c e) D f j (I.freeC x c e);exact⟨_,q,hd⟩
  ·exact⟨o,keep c o (I.cne x c e) D f j (I.freeC x c e),hd⟩
 refine⟨I.ok,I.os,hg,⟨λb o e n hb a=>?_,λb o e n hb a=>?_,λb o e n a=>?_,λb o e a=>?_,λb xs e=>tups b xs (I.base.tups b xs e),λb o xs e=>frzs b o xs (I.base.frzs b o xs e),λb ps e=>?_⟩,?_,λx c e=>?_,?_,λx c e=>?_,λp C=>?_,hok,I.len⟩
 ·exact keep b o (t b o e) hb (h b o e a) (I.base.keep b o e n hb a) (I.base.free b o e n a)
 ·obtain⟨sl,e1⟩:=I.base.slot b o e n hb a;obtain⟨B,y⟩:=slot b _ (t b o e) hb (h b o e a) e1 (I.base.free b o e n a);exact⟨B,y⟩
 ·obtain⟨o',e1⟩:=I.base.there b o e a;exact free b o' (h b o e a) e1 (I.base.free b o e n a)
 ·obtain⟨o',e1⟩:=I.base.there b o e a;exact there b o' (h b o e a) e1
 ·obtain⟨m1,e1⟩:=I.base.tbls b ps e;obtain⟨m2,y⟩:=tbls b _ e1;exact⟨m1++m2,by rw[y,Array.append_assoc]⟩
 ·obtain⟨m,hn,E⟩:=I.loc;refine⟨m,ns m hn,λi x v e1 y F=>?_⟩;obtain⟨u,r,l⟩:=E i x v e1 y F;refine⟨u,r,?_⟩;rcases l with l|⟨k,c,e,z⟩
  ·exact .inl l
  ·exact .inr ⟨k,c,e,cellK x c e _ z⟩
 ·obtain⟨v,z⟩:=I.cell x c e;exact⟨v,cellK x c e v z⟩
 ·obtain⟨m,⟨o,_,_,j,_⟩,_⟩:=I.loc;exact free _ o (λz=>(g _ z).2.1 rfl) j I.free
 ·obtain⟨v,o,j,hd⟩:=I.cell x c e;exact free c o (λz=>(g c z).2.2.1 x c e rfl) j (I.freeC x c e)
 ·obtain⟨e,n,ne,nf,d⟩:=I.pin p C;have f:p.1∉ch:=λz=>(g p.1 z).2.2.2 p C rfl;exact⟨keep p.1 p.2 ne nf f e n,free p.1 p.2 f e n,ne,nf,d⟩
theorem Inv.un {t':Nat}(I:Inv X pins σ H s)(u:Un X.fs [] H H' s.heap h')(hok:HOk X.prog X.w H' h'):Inv X pins σ H' {s with heap:=h',toks:=t'}:=by
 obtain⟨m,⟨o,k,j,f,r⟩,_⟩:=id I.loc;obtain⟨sl,g⟩:=u.any f I.free (by simp);exact I.step (g':=s.gens) (d':=s.drawn) (ch:=[]) (λ_ z=>nomatch z) (λb o _ hb _ e n=>u.keep b o e n hb (by simp)) (λb o _ hb _ e n=>u.slot b o e n hb (by simp)) (λb o _ e n=>u.free b o e n (by simp)) (λb o _ e=>u.there b o e (by simp)) u.tups u.frzs u.tbls (λi hm=>by
  obtain⟨o',d,c,a,h⟩:=hm;rw[f]at a;cases a;exact⟨_,d,c,g,h⟩) hok I.bare
theorem Inv.call {g':Array GenState}{t':Nat}{d':Drawn}{ch:List Addr}(I:Inv X pins σ H s)(u:Un (frs X.stack) ch H H' s.heap h')(hok:HOk X.prog X.w H' h')(hg:AllBare g')
  (f:∀b∈ch,(b∈X.ex\/X.s₀.heap.objs.size<=b)/\b≠X.env.locals/\(∀x c,X.env.cells.lookup x=some c->c≠b)/\∀p∈X.pn++pins,p.1≠b):
  Inv X pins σ H' {s with heap:=h',gens:=g',drawn:=d',toks:=t'}:=by
 obtain⟨m,⟨o,t,q,j,r⟩,_⟩:=id I.loc;obtain⟨sl,i⟩:=u.any j I.free λz=>(f _ z).2.1 rfl;exact I.step (ch:=ch) f (λb o i hb a e n=>u.keep b o e n (λz=>(zY4.mp (I.stkSub b z)).elim i hb) a) (λb o _ _ a e n=>u.any e n a) (λb o a e n=>u.free b o e n a) (λb o a e=>u.there b o e a) u.tups u.frzs u.tbls (λl hm=>by
  obtain⟨o',h,g,d,k⟩:=hm;rw[j]at d;cases d;exact⟨_,h,g,i,k⟩) hok hg
theorem Inv.turned {t':Nat}{it:Addr}(I:Inv X pins σ H s)(k:∀b o,b≠it->s.heap.get? b=some o->h'.get? b=some o)(hn:H it=none)(f:it≠X.env.locals)
  (j:it∈X.ex\/X.s₀.heap.objs.size<=it) (g:∀x c,X.env.cells.lookup x=some c->c≠it) (l:∀p∈X.pn++pins,p.1≠it):Inv X pins σ H {s with heap:=h',toks:=t'}:=by
 have d:∀b u,H b=some u->b≠it:=λb u e z=>by rw[z,hn]at e;cases e
 refine I.step (g':=s.gens) (d':=s.drawn) (ch:=[it]) (λb hb=>?_) (λb o _ _ a e _=>k b o (λz=>a (by simp[z])) e) (λb o _ _ a e _=>⟨o.slots,k b o (λz=>a (by simp[z])) e⟩) (λ_ _ _ _ n=>n)
  (λb o a e=>⟨o,k b o (λz=>a (by simp[z])) e⟩) (λ_ _ e=>e) (λ_ _ _ e=>e) (λb ps e=>⟨#[],by rw[e];simp⟩) (λm hm=>?_) (λb u e=>?_) I.bare
 ·have e:b=it:=by simpa using hb
  subst e;exact⟨j,f,g,l⟩
 ·obtain⟨o,t,h,i,r⟩:=hm;exact⟨o,t,h,k _ o (z24 f) i,r⟩
 ·refine(I.hok b u e).stay (λc v a q=>k c v ?_ q) (λ_ q=>q) λ_ _ q=>q;rcases a with z|z
  ·rw[z];exact d b u e
  ·exact d c _ z
theorem Inv.tok (I:Inv X pins σ H s)(t:Nat):Inv X pins σ H {s with toks:=t}:=I.un (h':=s.heap) (t':=t) Un.refl I.hok
theorem Inv.kept {t':Nat}(I:Inv X pins σ H s)(k:∀b u,s.heap.get? b=some u->h'.get? b=some u):Inv X pins σ H {s with heap:=h',toks:=t'}:=I.un (Un.kept k) (I.hok.kept k)
theorem Inv.laid {a:Addr}{o:HO}{t':Nat}(I:Inv X pins σ H s)(k:∀b u,s.heap.get? b=some u->h'.get? b=some u)(c:s.heap.objs.size<=a)(new:zA X.prog X.w (upd H a o) h' a o):
  Inv X pins σ (upd H a o) {s with heap:=h',toks:=t'}:=I.un (Un.laid k c (I.hok.fresh c)) (I.hok.laid k c new)
theorem Inv.write {x e:Addr}{o:HO}{t':Nat}(I:Inv X pins σ H s)(c:Mut (H x))(he:e=x\/H e=some (.own x))(k:∀b u,b≠e->s.heap.get? b=some u->h'.get? b=some u)(a:∃u,h'.get? e=some u)
  (new:zA X.prog X.w (upd H x o) h' x o):Inv X pins σ (upd H x o) {s with heap:=h',toks:=t'}:=I.un (Un.write c he k a) (I.hok.write c he k a new)
theorem Inv.pins_of {a:List (Addr×Obj)}(I:Inv X pins σ H s)(h:∀p∈a,s.heap.get? p.1=some p.2/\H p.1=none/\p.1≠X.env.locals/\p.1∉X.fs/\∀v,p.2.data≠.cell v):Inv X a σ H s:=
 ⟨I.ok,I.os,I.bare,I.base,I.loc,I.cell,I.free,I.freeC,λp b=>(z01.mp b).elim (λz=>I.pin p (z41 _ z)) (h p),I.hok,I.len⟩
theorem mn {N:List Str}(c:N.Nodup){i j:Nat}{x:Str}(a:N[i]?=some x)(b:N[j]?=some x):i=j:=by
 obtain⟨f,e1⟩:=zX9.mp a;obtain⟨e,d⟩:=zX9.mp b;exact(List.getElem_inj c).mp (e1.trans d.symm)
theorem qK {M:Model}{A:Around}{E:Value->Shared->Prop}{i:Nat}{x:Str}{v:V}{u:Value}{Q:Unit->Shared->Prop}(I:Inv X pins σ H s)(hN:X.N.Nodup)(hi:X.N[i]?=some x)(l:Loc X.env.scope x)(r:RelV v u)
  (h:∀s',Inv X pins (σ.set i (some v)) H s'->(∃a,Heap.SameBut a s.heap s'.heap/\(a=X.env.locals\/X.env.cells.lookup x=some a))->Q () s') (hf:X.fn x=true\/X.env.scope.names.lookup x=some .local:=by first|exact .inl rfl|exact .inr rfl|assumption):wpAny M A (storeName X.env x u) Q E s:=by
 obtain⟨m,hn,hl⟩:=id I.loc;have J:(X.env.scope.kind == .class||(X.env.scope.kind == .module&&X.env.locals != X.env.globals))=false:=by rw[I.ok.kind];rfl
 have C:i<σ.length:=by rw[I.len];exact(zX9.mp hi).1
 have cne:=I.cne;have tracked:∀{a:Addr} {h':Heap},(∃o,s.heap.get? a=some o/\H a=none)->Heap.SameBut a s.heap h'->HOk X.prog X.w H h':=λ{a h'} ha f b ob e=>by
  obtain⟨_,_,t⟩:=ha;refine(I.hok b ob e).stay (λc P g q=>(f.2 c ?_).trans q) (λ_ q=>q) λ_ _ q=>q;rintro rfl;rcases g with rfl|g
  ·rw[t]at e;cases e
  ·rw[t]at g;cases g
 rcases l with hk|hk
 ·refine wpAny_storeName_local hk hn (λh' Z f=>?_) J;obtain⟨oL,_,_,U,_⟩:=id hn;refine h _ ⟨I.ok,I.os,I.bare,⟨λb o e n hb l=>?_,λb o e n hb l=>?_,I.base.free,λb o e l=>?_,I.base.tups,I.base.frzs,I.base.tbls⟩,⟨_,Z,λj y R e1 B W=>?_⟩,λy c e=>?_,I.free,I.freeC,λp S=>?_,tracked ⟨oL,U,I.free⟩ f,by simpa using I.len⟩ ⟨_,f,.inl rfl⟩
  ·exact(f.2 b (zZ7 (zX8 (zY5 e) I.ok.above))).trans (I.base.keep b o e n hb l)
  ·obtain⟨sl,e1⟩:=I.base.slot b o e n hb l;exact⟨sl,(f.2 b (zZ7 (zX8 (zY5 e) I.ok.above))).trans e1⟩
  ·obtain⟨o',e1⟩:=I.base.there b o e l;exact⟨o',(f.2 b (zZ7 (zX8 (zY5 e) I.ok.above))).trans e1⟩
  ·by_cases D:j=i
   ·subst D;rw[hi]at e1;cases e1;rw[z94 C]at B;cases B;exact⟨u,r,.inl ⟨hk,by simp⟩⟩
   ·rw[z50 (z24 D)]at B;obtain⟨T,Y,q⟩:=hl j y R e1 B W;refine⟨T,Y,?_⟩;rcases q with⟨k,e⟩|⟨k,c,e,z⟩
    ·refine .inl ⟨k,?_⟩;have:y≠x:=λe=>D (mn hN e1 (e▸hi));simp[this,e]
    ·exact .inr ⟨k,c,e,z.sameBut f (cne y c e)⟩
  ·obtain⟨P,z⟩:=I.cell y c e;exact⟨P,z.sameBut f (cne y c e)⟩
  ·obtain⟨e,n,ne,nf,d⟩:=I.pin p S;exact⟨(f.2 p.1 ne).trans e,n,ne,nf,d⟩
 ·have F:X.fn x=true:=by
   rcases hf with z|z
   ·exact z
   ·rw[z]at hk;cases hk
  obtain⟨c,g⟩:=I.ok.has x (.inl hk);obtain⟨P,z⟩:=I.cell x c g;refine wpAny_storeName_cell I.ok.kind hk g z (λh' O f=>?_);obtain⟨oc,L,K⟩:=id z;refine h {s with heap:=h'} ⟨I.ok,I.os,I.bare,⟨λb o e n hb l=>?_,λb o e n hb l=>?_,I.base.free,λb o e l=>?_,I.base.tups,I.base.frzs,I.base.tbls⟩,⟨m,hn.sameBut f (z24 (cne x c g)),λj y R e1 B W=>?_⟩,λy c' e=>?_,I.free,I.freeC,λp S=>?_,tracked ⟨oc,L,I.freeC x c g⟩ f,by simpa using I.len⟩ ⟨c,f,.inr g⟩
  ·exact(f.2 b (zZ7 (zX8 (zY5 e) (I.ok.cab x c F g)))).trans (I.base.keep b o e n hb l)
  ·obtain⟨sl,e1⟩:=I.base.slot b o e n hb l;exact⟨sl,(f.2 b (zZ7 (zX8 (zY5 e) (I.ok.cab x c F g)))).trans e1⟩
  ·obtain⟨o',e1⟩:=I.base.there b o e l;exact⟨o',(f.2 b (zZ7 (zX8 (zY5 e) (I.ok.cab x c F g)))).trans e1⟩
  ·by_cases D:j=i
   ·subst D;rw[hi]at e1;cases e1;rw[z94 C]at B;cases B;exact⟨u,r,.inr ⟨.inl hk,c,g,O⟩⟩
   ·rw[z50 (z24 D)]at B;obtain⟨T,Y,q⟩:=hl j y R e1 B W;refine⟨T,Y,?_⟩;rcases q with q|⟨k,c',e,z'⟩
    ·exact .inl q
    ·refine .inr ⟨k,c',e,z'.sameBut f ?_⟩;rintro rfl;exact D (mn hN e1 (I.ok.inj _ _ _ e g▸hi))
  ·by_cases G:c'=c
   ·subst G;exact⟨_,O⟩
   ·obtain⟨w2,z2⟩:=I.cell y c' e;exact⟨w2,z2.sameBut f G⟩
  ·obtain⟨e,n,ne,nf,d⟩:=I.pin p S;refine⟨(f.2 p.1 ?_).trans e,n,ne,nf,d⟩;intro q;rw[q,L]at e;have q':oc=p.2:=z07 e;exact d P (by rw[<-q'];exact K)
theorem me {M:Model}{A:Around}{E:Value->Shared->Prop}{i:Nat}{x:Str}{v:V}{u:Value}{Q:Unit->Shared->Prop}(I:Inv X pins σ H s)(c:X.N.Nodup)(hi:X.N[i]?=some x)(a:Loc X.env.scope x)(r:RelV v u)
  (h:∀s',Inv X pins (σ.set i (some v)) H s'->Q () s') (hf:X.fn x=true\/X.env.scope.names.lookup x=some .local:=by first|exact .inl rfl|exact .inr rfl|assumption):wpAny M A (storeName X.env x u) Q E s:=
 qK I c hi a r (λs' b _=>h s' b) hf
theorem Inv.call' {s':Shared}{ch:List Addr}(I:Inv X pins σ H s)(d:s'.os=s.os)(u:Un (frs X.stack) ch H H' s.heap s'.heap)(hok:HOk X.prog X.w H' s'.heap)(hg:AllBare s'.gens)
  (a:∀b∈ch,(b∈X.ex\/X.s₀.heap.objs.size<=b)/\b≠X.env.locals/\(∀x c,X.env.cells.lookup x=some c->c≠b)/\∀p∈X.pn++pins,p.1≠b):Inv X pins σ H' s':=by
 obtain⟨h',g',d',t',o'⟩:=s';have e:o'=s.os:=d;subst e;exact I.call (g':=g') (t':=t') (d':=d') u hok hg a
end
abbrev XK :=Value->Option Addr->Hp->Prop
abbrev St :=List (Option V)
abbrev VK :=V->Hp->Prop
abbrev TE :=St->Hp->VK->Prop
abbrev TT :=St->Hp->(Bool->Hp->Prop)->Prop
abbrev TA :=St->Hp->(List V->Hp->Prop)->Prop
structure Ends where
 nx:St->Hp->Prop
 rt:VK
 bk:St->Hp->Prop:=λ_ _=>False
 ct:St->Hp->Prop:=λ_ _=>False
abbrev TS :=Ends->St->Hp->Prop
def EP (X:Cx)(pins:List (Addr×Obj))(σ:St)(Q:VK)(u:Value)(s':Shared):Prop:=∃v H',Inv X pins σ H' s'/\RelV v u/\Q v H'
def TP (X:Cx)(pins:List (Addr×Obj))(σ:St)(Q:Bool->Hp->Prop)(b:Bool)(s':Shared):Prop:=∃H',Inv X pins σ H' s'/\Q b H'
def AP (X:Cx)(pins:List (Addr×Obj))(σ:St)(Q:List V->Hp->Prop)(us:List Value)(s':Shared):Prop:=∃vs H',Inv X pins σ H' s'/\Vals vs us/\Q vs H'
def SP (X:Cx)(pins:List (Addr×Obj))(D:Ends)(f:Flow)(s':Shared):Prop:=
 match f with
 |.next=>∃a H',Inv X pins a H' s'/\D.nx a H'
 |.brk=>∃a H',Inv X pins a H' s'/\D.bk a H'
 |.cont=>∃a H',Inv X pins a H' s'/\D.ct a H'
 |.ret u=>∃v a H',Inv X pins a H' s'/\RelV v u/\D.rt v H'
def PE (X:Cx)(e:Expr)(t:TE):Prop:=
 ∀(pins:List (Addr×Obj)) (s:Shared) (σ:St) (H:Hp) (Q:VK),Inv X pins σ H s->t σ H Q->wpAny (model X.prog X.w) X.A (eval e X.env) (EP X pins σ Q) X.xe s
def PT (X:Cx)(e:Expr)(t:TT):Prop:=
 ∀(pins:List (Addr×Obj)) (s:Shared) (σ:St) (H:Hp) (Q:Bool->Hp->Prop),Inv X pins σ H s->t σ H Q->wpAny (model X.prog X.w) X.A (isTrue e X.env (eval e X.env)) (TP X pins σ Q) X.xe s
def PW (X:Cx)(e:Expr)(t:TT):Prop:=
 ∀(whole:Sem Value) (pins:List (Addr×Obj)) (s:Shared) (σ:St) (H:Hp) (Q:Bool->Hp->Prop),Inv X pins σ H s->t σ H Q->wpAny (model X.prog X.w) X.A (isTrue e X.env whole) (TP X pins σ Q) X.xe s
theorem PW.pt {X:Cx}{e:Expr}{t:TT}(h:PW X e t):PT X e t:=h _
def PA (X:Cx)(a:List Expr)(t:TA):Prop:=
 ∀(pos:Pos) (pins:List (Addr×Obj)) (s:Shared) (σ:St) (H:Hp) (Q:List V->Hp->Prop),Inv X pins σ H s->t σ H Q->wpAny (model X.prog X.w) X.A (spliced (backTo pos (starEach a X.env))) (AP X pins σ Q) X.xe s
def PS (X:Cx)(st:Stmt)(t:TS):Prop:=
 ∀(pins:List (Addr×Obj)) (s:Shared) (σ:St) (H:Hp) (D:Ends),Inv X pins σ H s->t D σ H->wpAny (model X.prog X.w) X.A (exec st X.env) (SP X pins D) X.xe s
def PSs (X:Cx)(st:List Stmt)(t:TS):Prop:=
 ∀(pins:List (Addr×Obj)) (s:Shared) (σ:St) (H:Hp) (D:Ends),Inv X pins σ H s->t D σ H->wpAny (model X.prog X.w) X.A (execs st X.env) (SP X pins D) X.xe s
theorem thn {α:Type}{t:Sem α}{Q b:α->Shared->Prop}{M:Model}{A:Around}{E:Value->Shared->Prop}{s:Shared}(h:wpAny M A t Q E s)(c:∀a s,Q a s->b a s):wpAny M A t b E s:=z26 h c λ_ _ x=>x
section
variable {X:Cx}
def zE8 (i:Nat):TE:=λσ H Q=>∃v,σ[i]?=some (some v)/\Q v H
def tC (v:V):TE:=λ_ H Q=>Q v H
theorem yF {i:Nat}{x:Str}{pos:Pos}(f:X.N[i]?=some x)(g:Vis X.env.scope x)(hd:(x == ("__debug__":Str))=false:=by decide)(b:(x == ("__classdict__":Str))=false:=by decide):PE X (.Name x pos) (zE8 i):=by
 intro pins s σ H Q I h;obtain⟨v,e,h⟩:=h;obtain⟨m,hn,j⟩:=I.loc;obtain⟨u,r,l⟩:=j i x v f e g;have fin:EP X pins σ Q u s:=⟨v,H,I,r,h⟩;rcases l with⟨hk,hm⟩|⟨hk,c,d,a⟩
 ·exact wpAny_Name (wpAny_loadName_local I.ok.kind hk hn hm fin) hd
 ·rcases hk with hk|hk
  ·exact wpAny_Name (wpAny_loadName_cell I.ok.kind hk d a fin) hd
  ·exact wpAny_Name (wpAny_loadName_free I.ok.kind hk d a fin b) hd
theorem zt {i j pos}:PE X (.Constant (.int i) j pos) (tC (.int i)):=λ_ _ _ H _ I h=>wpAny_Constant_int ⟨.int i,H,I.tok _,⟨_,rfl⟩,h⟩
theorem zQ8 {b j pos}:PE X (.Constant (.bool b) j pos) (tC (.bl b)):=λ_ _ _ H _ I h=>Constant_bool ⟨.bl b,H,I,rfl,h⟩
theorem cY {j pos}:PE X (.Constant .none j pos) (tC .non):=λ_ _ _ H _ I h=>Constant_none ⟨.non,H,I,rfl,h⟩
theorem zF4 {x j pos}:PE X (.Constant (.str x) j pos) (tC (.str x)):=λ_ _ _ H _ I h=>Calls.Constant_str ⟨.str x,H,I.tok _,⟨_,rfl⟩,h⟩
def Gl (X:Cx)(x:Str):Prop:=X.env.kindOf x=some .globalImplicit
theorem xK {E:Value->Shared->Prop}{pins:List (Addr×Obj)}{s:Shared}{σ:St}{H:Hp}{x:Str}{u:Value}{pos:Pos}{Q:Value->Shared->Prop}(I:Inv X pins σ H s)(hg:Gl X x)(hm:X.mg x=some u)(h:Q u s)
  (hd:(x == ("__debug__":Str))=false:=by decide):wpAny (model X.prog X.w) X.A (eval (.Name x pos) X.env) Q E s:=
 Calls.Name_function_global I.ok.kind hg (Calls.loadGlobal_global (by rw[I.ok.glob];exact I.mod.glob.keeps I.bk) hm h) hd
theorem yT {E:Value->Shared->Prop}{pins:List (Addr×Obj)}{s:Shared}{σ:St}{H:Hp}{x:Str}{u:Value}{pos:Pos}{Q:Value->Shared->Prop}(I:Inv X pins σ H s)(hg:Gl X x)(hm:X.mg x=none)(c:bootBuiltins x=some u)(h:Q u s)
  (hn:x≠"__name__":=by decide) (hd:(x == ("__debug__":Str))=false:=by decide):wpAny (model X.prog X.w) X.A (eval (.Name x pos) X.env) Q E s:=by
 obtain⟨mb,b,a⟩:=I.mod.blt;exact Calls.Name_function_global I.ok.kind hg (Calls.loadGlobal_builtin (by rw[I.ok.glob];exact I.mod.glob.keeps I.bk) hm (by rw[I.ok.blt];exact b.keeps I.bk) ((a x hn).trans c) h) hd
theorem zi2 {x:Str}{v:V}{u:Value}{pos:Pos}(hg:Gl X x)(hm:X.mg x=some u)(r:RelV v u)(hd:(x == ("__debug__":Str))=false:=by decide):PE X (.Name x pos) (tC v):=
 λ_ _ _ H _ I h=>xK I hg hm ⟨v,H,I,r,h⟩ hd
theorem zi1 {x:Str}{v:V}{u:Value}{pos:Pos}(hg:Gl X x)(hm:X.mg x=none)(a:bootBuiltins x=some u)(r:RelV v u)(hn:x≠"__name__":=by decide)(hd:(x == ("__debug__":Str))=false:=by decide):PE X (.Name x pos) (tC v):=
 λ_ _ _ H _ I h=>yT I hg hm a ⟨v,H,I,r,h⟩ hn hd
variable {a b:Expr}{ta tb:TE}{pos:Pos}
def tB (t:TE):TT:=λσ H Q=>t σ H λx H1=>∃c,x=.bl c/\Q c H1
theorem zB3 {e:Expr}{t:TE}(h:PE X e t)(he:∀whole,isTrue e X.env whole=(do let v <-whole;standAt e.pos;holding [v] (truthy v)):=by intro _;rfl):PT X e (tB t):=by
 intro pins s σ H Q I hw;refine isTrue_plain (thn (h pins s σ H _ I hw) λv s1 c=>?_) (he _);obtain⟨x,H1,i,g,f⟩:=c;obtain⟨d,rfl,q⟩:=f;cases g;exact z53 ⟨H1,i,q⟩
variable {tA tB':TT}{rest:List Expr}
def zU7 (t u:TT):TT:=λσ H Q=>t σ H λc H1=>if c=true then u σ H1 Q else Q false H1
def tOr (t u:TT):TT:=λσ H Q=>t σ H λc H1=>if c=true then Q true H1 else u σ H1 Q
def zX1 (t:TT):TT:=λσ H Q=>t σ H λc H1=>Q (!c) H1
theorem iD (ha:PT X a tA):PW X (.BoolOp .And [a] pos) tA:=by
 intro d pins s σ H Q I h;refine isTrue_and (thn (ha pins s σ H Q I h) λc s1 e=>?_);cases c with
 |true=>exact isTrue_and_nil e
 |false=>exact e
theorem zC3 (ha:PT X a tA):PW X (.BoolOp .Or [a] pos) tA:=by
 intro d pins s σ H Q I h;refine isTrue_or (thn (ha pins s σ H Q I h) λc s1 e=>?_);cases c with
 |false=>exact isTrue_or_nil e
 |true=>exact e
theorem cG (ha:PT X a tA)(hb:PW X (.BoolOp .And (b::rest) pos) tB'):PW X (.BoolOp .And (a::b::rest) pos) (zU7 tA tB'):=by
 intro g pins s σ H Q I h;refine isTrue_and (thn (ha pins s σ H _ I h) λc s1 d=>?_);obtain⟨H1,f,e⟩:=d;cases c with
 |true=>exact hb g pins s1 σ H1 Q f e
 |false=>exact⟨H1,f,e⟩
theorem zK9 (ha:PT X a tA)(hb:PW X (.BoolOp .Or (b::rest) pos) tB'):PW X (.BoolOp .Or (a::b::rest) pos) (tOr tA tB'):=by
 intro g pins s σ H Q I h;refine isTrue_or (thn (ha pins s σ H _ I h) λc s1 d=>?_);obtain⟨H1,f,e⟩:=d;cases c with
 |true=>exact⟨H1,f,e⟩
 |false=>exact hb g pins s1 σ H1 Q f e
theorem zB6 (ha:PT X a tA):PT X (.UnaryOp .Not a pos) (zX1 tA):=by
 intro pins s σ H Q I h;exact isTrue_not (ha pins s σ H (λc H1=>Q (!c) H1) I h)
def zR4 (ta tb:TE):TE:=λσ H Q=>ta σ H λx H1=>∃c,x=.bl c/\if c=true then tb σ H1 Q else Q (.bl false) H1
def zV7 (ta tb:TE):TE:=λσ H Q=>ta σ H λx H1=>∃c,x=.bl c/\if c=true then Q (.bl true) H1 else tb σ H1 Q
def zQ5 (ta:TE):TE:=λσ H Q=>ta σ H λx H1=>∃c,x=.bl c/\Q (.bl (!c)) H1
theorem zG6 {op}{t:TE}(h:PE X a t):PE X (.BoolOp op [a] pos) t:=λpins s σ H Q I hw=>BoolOp_one (h pins s σ H Q I hw)
theorem zC5 (ha:PE X a ta)(hb:PE X (.BoolOp .And (b::rest) pos) tb):PE X (.BoolOp .And (a::b::rest) pos) (zR4 ta tb):=by
 intro pins s σ H Q I h;refine BoolOp_and (thn (ha pins s σ H _ I h) λv s1 d=>?_);obtain⟨x,H1,f,g,e⟩:=d;obtain⟨c,rfl,e⟩:=e;cases g;refine z53 ?_;cases c with
 |true=>exact hb pins s1 σ H1 Q f e
 |false=>exact⟨.bl false,H1,f,rfl,e⟩
theorem zN0 (ha:PE X a ta)(hb:PE X (.BoolOp .Or (b::rest) pos) tb):PE X (.BoolOp .Or (a::b::rest) pos) (zV7 ta tb):=by
 intro pins s σ H Q I h;refine BoolOp_or (thn (ha pins s σ H _ I h) λv s1 d=>?_);obtain⟨x,H1,f,g,e⟩:=d;obtain⟨c,rfl,e⟩:=e;cases g;refine z53 ?_;cases c with
 |false=>exact hb pins s1 σ H1 Q f e
 |true=>exact⟨.bl true,H1,f,rfl,e⟩
theorem zA2 (ha:PE X a ta):PE X (.UnaryOp .Not a pos) (zQ5 ta):=by
 intro pins s σ H Q I h;refine UnaryOp_ (thn (ha pins s σ H _ I h) λv s1 d=>?_);obtain⟨x,H1,f,g,e⟩:=d;obtain⟨c,rfl,e⟩:=e;cases g;exact not_of (z53 ⟨.bl (!c),H1,f,rfl,e⟩)
def tIf (t:TT)(ta tb:TE):TE:=λσ H Q=>t σ H λc H1=>if c=true then ta σ H1 Q else tb σ H1 Q
theorem za5 {c:Expr}(i:PT X c tA)(ha:PE X a ta)(hb:PE X b tb):PE X (.IfExp c a b pos) (tIf tA ta tb):=by
 intro pins s σ H Q I h;refine wpAny_IfExp (thn (i pins s σ H _ I h) λd s1 e=>?_);obtain⟨H1,g,f⟩:=e;cases d with
 |true=>exact ha pins s1 σ H1 Q g f
 |false=>exact hb pins s1 σ H1 Q g f
end
def SqL (K:PySem.W.Frag)(H:Hp)(a:Addr)(xs:List V):Prop:=
 Rd H a (.lst xs)\/
  ∃(o:Obj) (its:Array Value) (n:Nat),K.lookup a=some o/\o.cls=.type "list"/\o.dict=none/\o.data=.seq its n/\its.size<=sizeLine/\Vals xs its.toList
def SqT (K:PySem.W.Frag)(H:Hp)(a:Addr)(xs:List V):Prop:=
 Rd H a (.tup xs)\/
  ∃(o:Obj) (its:Array Value) (n:Nat),K.lookup a=some o/\o.cls=.type "tuple"/\o.data=.seq its n/\its.size<=sizeLine/\Vals xs its.toList
def zX3 :Value->Option V
 |.none=>some .non
 |.bool b=>some (.bl b)
 |.int i _=>some (.int i)
 |.str x _=>some (.str x)
 |.bytes b _=>some (.byt b)
 |.float b _=>some (.flt b)
 |.ref a=>some (.ref a)
 |.type n=>some (.ty n)
 |_=>none
theorem RelV.abs {x:V}{u:Value}(r:RelV x u):zX3 u=some x:=by
 cases x with
 |non=>cases r;rfl
 |bl _=>cases r;rfl
 |int _=>obtain⟨t,rfl⟩:=r;rfl
 |str _=>obtain⟨t,rfl⟩:=r;rfl
 |byt _=>obtain⟨t,rfl⟩:=r;rfl
 |flt _=>obtain⟨t,rfl⟩:=r;rfl
 |ref _=>cases r;rfl
 |ty _=>cases r;rfl
theorem RelV.inj {x y:V}{u:Value}(r:RelV x u)(q:RelV y u):x=y:=z07 (r.abs.symm.trans q.abs)
theorem Vals.inj {xs ys:List V}{us:List Value}(h:Vals xs us)(k:Vals ys us):xs=ys:=by
 induction h generalizing ys with
 |nil=>cases k;rfl
 |cons r _ b=>cases k with
  |cons a t'=>rw[r.inj a,b t']
section
variable {X:Cx}{pins:List (Addr×Obj)}{σ:St}{H:Hp}{s:Shared}{a:Addr}{xs ys:List V}
theorem SqL.of {K:PySem.W.Frag}(h:H a=some (.lst xs)):SqL K H a xs:=.inl (.inl h)
theorem SqT.of {K:PySem.W.Frag}(h:H a=some (.tup xs)):SqT K H a xs:=.inl (.inl h)
theorem Inv.list (I:Inv X pins σ H s)(h:SqL X.K H a xs):∃its:List Value,Vals xs its/\PlainL s.heap a its.toArray/\xs.length<=sizeLine:=by
 rcases h with h|⟨o,its,n,hk,b,hd,c,hz,r⟩
 ·obtain⟨z,its,n,r,e⟩:=h.ok I.hok;exact⟨its,r,⟨_,n,e,rfl,rfl,rfl⟩,z⟩
 ·refine⟨its.toList,r,⟨o,n,I.kIn a o hk,b,hd,by simpa using c⟩,?_⟩;have e:=r.length;simp only[yd3]at e;exact zY8 (zZ5 e) hz
theorem Inv.tuple (I:Inv X pins σ H s)(h:SqT X.K H a xs):∃its:List Value,Vals xs its/\IsTup s.heap a its.toArray/\xs.length<=sizeLine:=by
 rcases h with h|⟨o,its,n,hk,b,c,hz,r⟩
 ·obtain⟨z,its,r,p⟩:=h.ok I.hok;exact⟨its,r,p,z⟩
 ·refine⟨its.toList,r,⟨o,I.kIn a o hk,b,n,by simpa using c⟩,?_⟩;have e:=r.length;simp only[yd3]at e;exact zY8 (zZ5 e) hz
theorem Inv.list_inj (I:Inv X pins σ H s)(h:SqL X.K H a xs)(h':SqL X.K H a ys):xs=ys:=by
 obtain⟨its,r,⟨o,n,e,_,_,d⟩,_⟩:=I.list h;obtain⟨its',f,⟨o',g,b,_,_,d'⟩,_⟩:=I.list h';rw[e]at b;cases b;rw[d]at d';injection d' with c _;have:its=its':=by simpa using congrArg Array.toList c
 subst this;exact r.inj f
end
abbrev Cx.wish (X:Cx)(E:Value->Shared->Prop):Cx:={X with xe:=E}
abbrev Cx.nox (X:Cx):Cx:=X.wish λ_ _=>False
theorem Cx.Ok.wish {X:Cx}(ok:X.Ok)(E:Value->Shared->Prop):(X.wish E).Ok:=
 ⟨ok.mod,ok.kind,ok.glob,ok.blt,ok.above,ok.inj,ok.has,ok.cab,ok.hd,ok.frames,ok.stk,ok.exf,ok.bs,ok.bsz,ok.noex,ok.exfs,ok.funs,ok.frf⟩
theorem Cx.Ok.unwish {X:Cx}{E:Value->Shared->Prop}(ok:(X.wish E).Ok):X.Ok:=
 ⟨ok.mod,ok.kind,ok.glob,ok.blt,ok.above,ok.inj,ok.has,ok.cab,ok.hd,ok.frames,ok.stk,ok.exf,ok.bs,ok.bsz,ok.noex,ok.exfs,ok.funs,ok.frf⟩
section
variable {X:Cx}{pins:List (Addr×Obj)}{σ:St}{H:Hp}{s:Shared}{E:Value->Shared->Prop}
theorem Inv.wish (I:Inv X pins σ H s)(E:Value->Shared->Prop):Inv (X.wish E) pins σ H s:=⟨I.ok.wish E,I.os,I.bare,I.base,I.loc,I.cell,I.free,I.freeC,I.pin,I.hok,I.len⟩
theorem Inv.unwish (I:Inv (X.wish E) pins σ H s):Inv X pins σ H s:=⟨I.ok.unwish,I.os,I.bare,I.base,I.loc,I.cell,I.free,I.freeC,I.pin,I.hok,I.len⟩
theorem SP.unwish {D:Ends}{f:Flow}{s':Shared}(h:SP (X.wish E) pins D f s'):SP X pins D f s':=by
 cases f with
 |next=>obtain⟨a,H',I,q⟩:=h;exact⟨a,H',I.unwish,q⟩
 |brk=>obtain⟨a,H',I,q⟩:=h;exact⟨a,H',I.unwish,q⟩
 |cont=>obtain⟨a,H',I,q⟩:=h;exact⟨a,H',I.unwish,q⟩
 |ret u=>obtain⟨v,a,H',I,r,q⟩:=h;exact⟨v,a,H',I.unwish,r,q⟩
theorem PSs.nox {st:List Stmt}{t:TS}(h:PSs X.nox st t):PSs X st t:=λpins s σ H D I hw=>
 z26 (h pins s σ H D (I.wish _) hw) (λ_ _ q=>q.unwish) λ_ _ z=>False.elim z
end
section
variable {X:Cx}{st:Stmt}{rest:List Stmt}{t u:TS}{e:Expr}{te:TE}{pos:Pos}
def zS2 :TS:=λD σ H=>D.nx σ H
def zO0 (t u:TS):TS:=λD σ H=>t {D with nx:=u D} σ H
theorem oS :PSs X [] zS2:=λ_ _ σ H _ I h=>yd5 ⟨σ,H,I,h⟩
theorem zy (c:PS X st t)(b:PSs X rest u):PSs X (st::rest) (zO0 t u):=by
 intro pins s σ H D I h;refine wpAny_execs_cons (thn (c pins s σ H {D with nx:=u D} I h) λf s1 q=>?_);cases f with
 |next=>
  obtain⟨a,H',d,q⟩:=q;exact b pins s1 a H' D d q
 |ret v=>exact q
 |brk=>exact q
 |cont=>exact q
theorem wF (a:PS X st t):PSs X [st] t:=by
 intro pins s σ H D I h;refine wpAny_execs_cons (thn (a pins s σ H D I h) λf s1 q=>?_);cases f with
 |next=>exact yd5 q
 |ret v=>exact q
 |brk=>exact q
 |cont=>exact q
theorem Inv.quiet {pins:List (Addr×Obj)}{σ:St}{H:Hp}{s:Shared}(I:Inv X pins σ H s):interactive X.env=false:=by simp[interactive,I.ok.kind]
def zL8 (te:TE):TS:=λD σ H=>te σ H λ_ H1=>D.nx σ H1
theorem oh (he:PE X e te)(d:swapsWith e none pos.line X.env=pure false:=by rfl):PS X (.Expr e pos) (zL8 te):=by
 intro pins s σ H D I h;exact wpAny_Expr_any (thn (he pins s σ H _ I h) λv s1 a=>by obtain⟨x,H1,b,f,c⟩:=a;exact⟨σ,H1,b,c⟩) I.quiet d
def zU5 (te:TE):TS:=λD σ H=>te σ H D.rt
theorem ub (he:PE X e te):PS X (.Return (some e) pos) (zU5 te):=by
 intro pins s σ H D I h;exact wpAny_Return_some (thn (he pins s σ H _ I h) λv s1 a=>by obtain⟨x,H1,b,d,c⟩:=a;exact⟨x,σ,H1,b,d,c⟩)
def zU6 (c:TT)(t u:TS):TS:=λD σ H=>c σ H λb H1=>if b=true then t D σ H1 else u D σ H1
theorem ae {c:Expr}{a b:List Stmt}{i:TT}(k:PT X c i)(ha:PSs X a t)(hb:PSs X b u):PS X (.If c a b pos) (zU6 i t u):=by
 intro pins s σ H D I h;refine wpAny_If (thn (k pins s σ H _ I h) λd s1 f=>?_);obtain⟨H1,j,g⟩:=f;cases d with
 |true=>exact ha pins s1 σ H1 D j g
 |false=>exact hb pins s1 σ H1 D j g
end
abbrev TG :=V->St->Hp->(St->Hp->Prop)->Prop
abbrev TGs :=List V->St->Hp->(St->Hp->Prop)->Prop
def PG (X:Cx)(target:Expr)(t:TG):Prop:=
 ∀(pins:List (Addr×Obj)) (s:Shared) (σ:St) (H:Hp) (v:V) (u:Value) (Q:St->Hp->Prop),Inv X pins σ H s->RelV v u->t v σ H Q->
  wpAny (model X.prog X.w) X.A (assign target X.env u) (λ_ s'=>∃a H',Inv X pins a H' s'/\Q a H') X.xe s
def PGs (X:Cx)(ts:List Expr)(t:TGs):Prop:=
 ∀(pins:List (Addr×Obj)) (s:Shared) (σ:St) (H:Hp) (vs:List V) (us:List Value) (Q:St->Hp->Prop),Inv X pins σ H s->Vals vs us->t vs σ H Q->
  wpAny (model X.prog X.w) X.A (assignInOrder ((assignEach ts X.env).map (·.2)) us) (λ_ s'=>∃a H',Inv X pins a H' s'/\Q a H') X.xe s
abbrev zC4 :=V->V->V->Hp->(Hp->Prop)->Prop
def zO8 (X:Cx)(t:zC4):Prop:=
 ∀(pins:List (Addr×Obj)) (s:Shared) (σ:St) (H:Hp) (o i v:V) (b a u:Value) (Q:Hp->Prop),Inv X pins σ H s->RelV o b->RelV i a->RelV v u->t o i v H Q->
  wpAny (model X.prog X.w) X.A (setItem b a u) (λ_ s'=>∃H',Inv X pins σ H' s'/\Q H') X.xe s
section
variable {X:Cx}{pos:Pos}
def sN (i:Nat):TG:=λv σ H Q=>Q (σ.set i (some v)) H
theorem yc {i:Nat}{x:Str}(c:X.N.Nodup)(hi:X.N[i]?=some x)(b:Loc X.env.scope x)(hf:X.fn x=true\/X.env.scope.names.lookup x=some .local:=by first|exact .inl rfl|exact .inr rfl|assumption):PG X (.Name x pos) (sN i):=by
 intro pins s σ H v u Q I r h;exact wpAny_assign_Name (me I c hi b r (λs' a=>⟨_,H,a,h⟩) hf)
def zD6 :TGs:=λvs σ H Q=>vs=[]/\Q σ H
def ig (t:TG)(u:TGs):TGs:=λvs σ H Q=>∃v r,vs=v::r/\t v σ H λa H'=>u r a H' Q
theorem uy :PGs X [] zD6:=by
 intro pins s σ H vs us Q I r h;obtain⟨e,h⟩:=h;subst e;cases r;exact assignInOrder_nil ⟨σ,H,I,h⟩
theorem wu {e:Expr}{b:List Expr}{t:TG}{u:TGs}(g:PG X e t)(d:PGs X b u)
  (k:(assignEach (e::b) X.env).map (·.2)=assign e X.env::(assignEach b X.env).map (·.2):=by rfl):PGs X (e::b) (ig t u):=by
 intro pins s σ H vs us Q I r h;obtain⟨v,l,e1,h⟩:=h;subst e1;cases r with
 |cons r i=>
  rw[k];refine assignInOrder_cons (thn (g pins s σ H _ _ _ I r h) λ_ s1 a=>?_);obtain⟨c,H1,j,f⟩:=a;exact d pins s1 c H1 _ _ Q j i f
def dE (K:PySem.W.Frag)(n:Nat)(t:TGs):TG:=λv σ H Q=>∃a xs,v=.ref a/\SqT K H a xs/\xs.length=n/\t xs σ H Q
theorem zB2 {c:List Expr}{k:Nat}{t:TGs}{n:Nat}(g:X.calm=true)(h:PGs X c t)
  (hn:(assignEach c X.env).length=n:=by rfl) (d:(assignEach c X.env).findIdx? (·.1)=none:=by rfl):PG X (.Tuple c k pos) (dE X.K n t):=by
 intro pins s σ H v u Q I r hw;obtain⟨a,xs,e1,hq,m,hw⟩:=hw;subst e1;cases r;obtain⟨its,f,j,hz⟩:=I.tuple hq;refine assign_Tuple_tuple (I.ok.hd g) j (by simp[hn,<-m,f.length]) d λh' i=>?_;have l:Inv X pins σ H {s with heap:=h'}:=I.kept (t':=s.toks) λb o e=>i b o (zZ7 (zY5 e)) e;exact h pins _ σ H xs _ Q l (by simpa using f) hw
def zP5 (to ti:TE)(t:zC4):TG:=λv σ H Q=>to σ H λo H1=>ti σ H1 λi a=>t o i v a λH3=>Q σ H3
theorem jv {o i:Expr}{to ti:TE}{t:zC4}(q:PE X o to)(hi:PE X i ti)(n:zO8 X t)
  (ha:∀v,assign (.Subscript o i pos) X.env v=(do
   let a <-holding [v] (eval o X.env)
   let b <-holding [v,a] (eval i X.env)
   standAt pos
   holding [v,a,b] (setItem a b v)
   release [v,a,b] []):=by intro _;rfl):PG X (.Subscript o i pos) (zP5 to ti t):=by
 intro pins s σ H v u Q I r h;rw[ha];refine zX5 (z34 (thn (q pins s σ H _ I h) λa s1 c=>?_));obtain⟨x,H1,k,g,m⟩:=c;refine zX5 (z34 (thn (hi pins s1 σ H1 _ k m) λb s2 d=>?_));obtain⟨y,j,l,p,f⟩:=d;refine zX5 (yd1 (zX5 (z34 (thn (n pins s2 σ j x y v a b u _ l g p r f) λ_ s3 e=>?_))));obtain⟨H3,w,z⟩:=e;exact wpAny_release ⟨σ,H3,w,z⟩
def zJ2 (a:TE)(g:TG):TS:=λD σ H=>a σ H λx H1=>g x σ H1 D.nx
theorem kC {tg e:Expr}{b:TE}{g:TG}(he:PE X e b)(hg:PG X tg g)(j:swapsWithSole [tg] e pos.line X.env=pure false:=by rfl)(hw:swappedStores [tg] e X.env=pure none:=by rfl)
  (f:(assignEach [tg] X.env).map (·.2)=[assign tg X.env]:=by rfl):PS X (.Assign [tg] e pos) (zJ2 b g):=by
 intro pins s σ H D I h;refine wpAny_Assign_stores (thn (he pins s σ H _ I h) λv s1 a=>?_) j hw;obtain⟨x,H1,i,d,c⟩:=a;rw[f];exact thn (hg pins s1 σ H1 x v _ i d c) λ_ s2 q=>q
theorem xP {i:Nat}{x:Str}{e:Expr}{b:TE}{pos':Pos}(l:X.N.Nodup)(hi:X.N[i]?=some x)(f:Loc X.env.scope x)(he:PE X e b)(k:swapsWith e (some (.Name x pos')) pos.line X.env=pure false:=by rfl)(hf:X.fn x=true\/X.env.scope.names.lookup x=some .local:=by first|exact .inl rfl|exact .inr rfl|assumption):
  PS X (.Assign [.Name x pos'] e pos) (zJ2 b (sN i)):=by
 intro pins s σ H D I h;refine wpAny_Assign_Name (thn (he pins s σ H _ I h) λv s1 a=>?_) k;obtain⟨y,H1,g,d,c⟩:=a;exact me g l hi f d (λs2 j=>⟨_,H1,j,c⟩) hf
end
section
variable {X:Cx}{pos:Pos}
def zE5 (c:TT)(e:TS):TS:=λD σ H=>∃W:Nat->St->Hp->Prop,(∃m,W m σ H)/\∀m σ H,W m σ H->
 c σ H λb H1=>if b=true then ∃N:St->Hp->Prop,(∀a H',N a H'->∃d,d<m/\W d a H')/\e {D with nx:=N,ct:=N,bk:=D.nx} σ H1 else D.nx σ H1
theorem lO {c:Expr}{body:List Stmt}{p:TT}{t:TS}(q:PassesOwn (model X.prog X.w) X.A X.env X.xe)(z:PT X c p)(hb:PSs X body t):PS X (.While c body [] pos) (zE5 p t):=by
 intro pins s σ H D I h;obtain⟨W,⟨m0,B⟩,turn⟩:=h;refine wpAny_While (codeAny_whileLoop (λn s'=>∃g H',Inv X pins g H' s'/\W n g H') ?_ m0 ⟨σ,H,I,B⟩);rintro n s1 ⟨d,H1,y,C⟩;refine z99 q (thn (z pins s1 d H1 _ y (turn n d H1 C)) λb s2 e=>?_);obtain⟨r,u,i⟩:=e;cases b with
 |true=>
  obtain⟨N,x,i⟩:=i;rw[if_pos rfl];refine z99 q (thn (hb pins s2 d r _ u i) λf s3 j=>?_);cases f with
  |next=>
   obtain⟨a,H3,m,o⟩:=j;obtain⟨l,hm,k⟩:=x a H3 o;exact⟨l,hm,a,H3,m,k⟩
  |cont=>
   obtain⟨a,H3,m,o⟩:=j;obtain⟨l,hm,k⟩:=x a H3 o;exact⟨l,hm,a,H3,m,k⟩
  |brk=>exact j
  |ret v=>exact j
 |false=>
  rw[if_neg z04];exact yd5 ⟨d,r,u,i⟩
end
structure It where
 go:Nat->Hp->Prop
 yld:Nat->Hp->V->Hp->Prop
 stop:Nat->Hp->Prop
def xi (X:Cx)(pins:List (Addr×Obj))(H:Hp)(b:Addr):Prop:=
 H b=none/\b≠X.env.locals/\b∉X.fs/\(b∈X.ex\/X.s₀.heap.objs.size<=b)/\(∀x c,X.env.cells.lookup x=some c->c≠b)/\∀p∈X.pn++pins,p.1≠b
theorem Inv.fpOk {X:Cx}{pins:List (Addr×Obj)}{σ:St}{H H':Hp}{s:Shared}{b:Addr}(I:Inv X pins σ H s)(hb:s.heap.objs.size<=b)(hn:H' b=none):xi X pins H' b:=by
 refine⟨hn,z71 (zX8 I.lt hb),I.nofs hb,.inr (zY8 I.sz hb),λx c e z=>?_,λp a z=>?_⟩
 ·obtain⟨v,q⟩:=I.cell x c e;exact absurd (zX8 q.lt (by rw[z];exact hb)) (z33 _)
 ·exact absurd (zX8 (zY5 (I.pin p a).1) (by rw[z];exact hb)) (z33 _)
structure Turn (P:Program)(w:World)(K:PySem.W.Frag)(tg:Expr)(J:It)(fp:List Addr)(it:Addr)(tn:Nat->Heap->Prop):Prop where
 mem:it∈fp
 obj:∀i h,tn i h->∀b∈fp,∃o,h.get? b=some o/\∀v,o.data≠.cell v
 keep:∀i h h',tn i h->(∀b∈fp,∀o,h.get? b=some o->h'.get? b=some o)->tn i h'
 item:∀(X:Cx),X.prog=P->X.w=w->X.K=K->X.calm=true->∀(i:Nat) (pins:List (Addr×Obj)) (s:Shared) (σ:St) (H:Hp) (E:Value->Shared->Prop),Inv X pins σ H s->(∀b∈fp,xi X pins H b)->tn i s.heap->J.go i H->
  wpAny (model P w) X.A (pyNext (.ref it)) (λr s1=>∃u,r=some u/\
   wpAny (model P w) X.A (letOwnedTupleGo tg (.ref it) u) (λ_ s2=>∃x H',Inv X pins σ H' s2/\RelV x u/\J.yld i H x H'/\tn (i+1) s2.heap/\∀b∈fp,H' b=none) E s1) E s
 done:∀(X:Cx),X.prog=P->X.w=w->X.K=K->X.calm=true->∀(i:Nat) (pins:List (Addr×Obj)) (s:Shared) (σ:St) (H:Hp) (E:Value->Shared->Prop),Inv X pins σ H s->(∀b∈fp,xi X pins H b)->tn i s.heap->J.stop i H->
  wpAny (model P w) X.A (pyNext (.ref it)) (λr s1=>r=none/\Inv X pins σ H s1) E s
 self:∀(A:Around) (i:Nat) (s:Shared) (Q:Value->Shared->Prop) (E:Value->Shared->Prop),tn i s.heap->Q (.ref it) s->wpAny (model P w) A (pyIter (.ref it)) Q E s
abbrev TI :=St->Hp->(It->Hp->Prop)->Prop
def PIE (X:Cx)(pins:List (Addr×Obj))(σ:St)(tg:Expr)(R:It->Hp->Prop)(a:Value)(s2:Shared):Prop:=
 ∃(it:Addr) (fp:List Addr) (tn:Nat->Heap->Prop) (J:It) (H':Hp),a=.ref it/\Inv X pins σ H' s2/\Turn X.prog X.w X.K tg J fp it tn/\tn 0 s2.heap/\(∀b∈fp,xi X pins H' b)/\R J H'
def PI (X:Cx)(tg iter:Expr)(a:TI):Prop:=
 ∀(pins:List (Addr×Obj)) (s:Shared) (σ:St) (H:Hp) (R:It->Hp->Prop),Inv X pins σ H s->a σ H R->
  wpAny (model X.prog X.w) X.A (eval iter X.env) (λv s1=>wpAny (model X.prog X.w) X.A (pyIter v) (PIE X pins σ tg R) X.xe s1) X.xe s
theorem nv {M:Model}{A:Around}{E:Value->Shared->Prop}{s:Shared}{tg:Expr}{it:Addr}{u:Value}{o:Obj}{n:String}{vs:Array Value}{Q:Unit->Shared->Prop}(c:s.heap.get? it=some o)(b:o.cls=.type n)(hd:o.data=.fields vs)
  (hn:["enumerate","zip","dict_itemiterator","dict_reverseitemiterator","odict_iterator","itertools.zip_longest","itertools.pairwise"].contains n=false) (a:Q () s):wpAny M A (letOwnedTupleGo tg (.ref it) u) Q E s:=by
 unfold letOwnedTupleGo;cases tg<;>first
  |exact zY3 a
  |(cases u<;>first
    |exact zY3 a
    |(refine zX5 (wpAny_load c ?_)
      rw[b,hd];show wpAny M A (if(["enumerate","zip","dict_itemiterator","dict_reverseitemiterator","odict_iterator","itertools.zip_longest","itertools.pairwise"].contains n&&vs[0]? == some (rawInt _))=true then _ else _) Q E s;rw[if_neg (by intro h;rw[hn,yb8]at h;cases h)];exact zY3 a))
def Itl (K:PySem.W.Frag)(a:Addr):It:=
 ⟨λi H=>∃xs x,SqL K H a xs/\xs[i]?=some x,λi H x H'=>H'=H/\∀xs,SqL K H a xs->xs[i]?=some x,λi H=>∃xs,SqL K H a xs/\xs.length<=i⟩
def Itr (lo:Int)(n:Nat):It:=⟨λi _=>i<n,λi H x H'=>H'=H/\x=.int (lo+i),λi _=>n<=i⟩
theorem gG {P:Program}{w:World}{K:PySem.W.Frag}{tg:Expr}(a it:Addr):Turn P w K tg (Itl K a) [it] it (λi h=>h.IsListIter it a i) where
 mem:=by simp
 obj:=λi h st b hb=>by
  have e:b=it:=by simpa using hb
  subst e;obtain⟨o,e,c,d⟩:=st;exact⟨o,e,λv z=>by rw[d]at z;cases z⟩
 keep:=λi h h' st k=>st.at λo e=>k it (by simp) o e
 item:=by
  intro X n hw hK q i pins s σ H E I hf st hg;subst n hw hK;obtain⟨xs,x,hq,g⟩:=hg;obtain⟨its,j,p,hz⟩:=I.list hq;obtain⟨u,B,C⟩:=j.get g;obtain⟨f0,f1,f2,l,f4,m⟩:=hf it (by simp);refine wpAny_pyNext_list_item st p.isList (x:=u) (by simpa using B) λh' f r=>?_;have t:Inv X pins σ H {s with heap:=h'}:=I.turned (t':=s.toks) (λb o hb e=>(r.2 b hb).trans e) f0 f1 l f4 m;obtain⟨o,e,c,d⟩:=id f;exact⟨u,rfl,nv (s:={s with heap:=h'}) e c d (by decide) ⟨x,H,t,C,⟨rfl,λys hy=>by rw[I.list_inj hy hq];exact g⟩,f,λb hb=>(hf b hb).1⟩⟩
 done:=by
  intro X n hw hK q i pins s σ H E I hf st hg;subst n hw hK;obtain⟨xs,hq,g⟩:=hg;obtain⟨its,j,p,hz⟩:=I.list hq;obtain⟨f0,f1,f2,l,f4,m⟩:=hf it (by simp);have A:=j.length;exact wpAny_pyNext_list_end (I.ok.hd q) st p.isList (by simp;exact zY8 (zZ5 A.symm) g) λh' y=>⟨rfl,I.turned (t':=s.toks) (λb o hb e=>y b o hb e) f0 f1 l f4 m⟩
 self:=λ_ _ _ _ _ st h=>wpAny_pyIter_listiter st h
theorem jF {P:Program}{w:World}{K:PySem.W.Frag}{tg:Expr}(it:Addr)(lo:Int)(n:Nat):Turn P w K tg (Itr lo n) [it] it (λi h=>IsRangeIter h it (lo+(i:Nat)*1) ((n:Int)-(i:Nat)) 1) where
 mem:=by simp
 obj:=λi h st b hb=>by
  have e:b=it:=by simpa using hb
  subst e;exact⟨_,st,λv z=>by
   have l:Data.fields _=Data.cell v:=z;cases l⟩
 keep:=λi h h' st k=>k it (by simp) _ st
 item:=by
  intro X g hw hK f i pins s σ H E I hf st hg;subst g hw hK;obtain⟨f0,f1,f2,c,f4,d⟩:=hf it (by simp);have W:=Walks.range (prog:=X.prog) (w:=X.w) (I.ok.hd f) it lo 1 n;refine W.item i s _ _ hg st λv h' tk q a j=>?_;obtain⟨t,rfl⟩:=q;have m:Inv X pins σ H {s with heap:=h',toks:=tk}:=I.turned (λb o hb e=>j b o (by simpa using hb) e) f0 f1 c f4 d;refine⟨_,rfl,nv (s:={s with heap:=h',toks:=tk}) (n:="range_iterator") a rfl rfl (by decide) ⟨.int (lo+i),H,m,⟨t,?_⟩,⟨rfl,rfl⟩,a,λb hb=>(hf b hb).1⟩⟩;rw[Int.mul_one]
 done:=by
  intro X g hw hK f i pins s σ H E I hf st hg;subst g hw hK;obtain⟨f0,f1,f2,c,f4,d⟩:=hf it (by simp);exact wpAny_pyNext_range_end (I.ok.hd f) st (by have:n<=i:=hg;exact zO9 this) λh' p=>⟨rfl,I.turned (t':=s.toks) (λb o hb e=>p b o hb e) f0 f1 c f4 d⟩
 self:=λ_ _ _ _ _ st h=>wpAny_pyIter_rangeiter st h
section
variable {X:Cx}{tg:Expr}
def zO3 (K:PySem.W.Frag)(b:TE):TI:=λσ H R=>b σ H λx H1=>∃a,x=.ref a/\(∃xs,SqL K H1 a xs)/\R (Itl K a) H1
theorem jS {l:Expr}{f:TE}(j:PE X l f):PI X tg l (zO3 X.K f):=by
 intro pins s σ H R I h;refine thn (j pins s σ H _ I h) λv s1 c=>?_;obtain⟨x,H1,d,i,g⟩:=c;obtain⟨a,e,⟨xs,hq⟩,q⟩:=g;subst e;cases i;obtain⟨its,k,p,hz⟩:=d.list hq;refine z67 p.isList ?_;refine⟨s1.heap.objs.size,[s1.heap.objs.size],_,_,H1,rfl,d.kept (t':=s1.toks) λb o e=>zX6 _ e,gG a _,⟨_,zY7 _ rfl,rfl,rfl⟩,λb hb=>?_,q⟩;have e:b=s1.heap.objs.size:=by simpa using hb
 subst e;exact d.fpOk (zY1 _) (d.hok.fresh (zY1 _))
theorem mz {pins:List (Addr×Obj)}{σ:St}{H:Hp}{s:Shared}{R:It->Hp->Prop}{E:Value->Shared->Prop}{lo hi:Int}{t u v:Tok}{tk:Nat}(I:Inv X pins σ H s)(d:-(2 ^ 62)<=lo)(c:lo<2 ^ 62)(g:-(2 ^ 62)<=hi)(f:hi<2 ^ 62)
  (q:R (Itr lo (hi-lo).toNat) H):wpAny (model X.prog X.w) X.A (pyIter (.ref s.heap.objs.size)) (PIE X pins σ tg R) E {s with heap:=s.heap.push {cls:=.type "range",data:=.fields #[.int lo t,.int hi u,.int 1 v]},toks:=tk}:=by
 refine wpAny_pyIter_range (IsRange.new ..) (small_one d c g f) ?_;have a:Inv X pins σ H {s with heap:=s.heap.push {cls:=.type "range",data:=.fields #[.int lo t,.int hi u,.int 1 v]},toks:=tk}:=I.kept λb o e=>zX6 _ e;refine⟨(s.heap.push {cls:=.type "range",data:=.fields #[.int lo t,.int hi u,.int 1 v]}).objs.size,[(s.heap.push {cls:=.type "range",data:=.fields #[.int lo t,.int hi u,.int 1 v]}).objs.size],_,_,H,rfl,
  a.kept (t':=tk) λb o e=>zX6 _ e,jF _ lo (hi-lo).toNat,?_,λb hb=>?_,q⟩
 ·have e1:lo+((0:Nat):Int)*1=lo:=by simp
  have h:(((hi-lo).toNat:Nat):Int)-((0:Nat):Int)=Builtin.Range.rangeSize lo hi 1:=by rw[rangeSize_one];split<;>lia
  show IsRangeIter _ _ (lo+((0:Nat):Int)*1) ((((hi-lo).toNat:Nat):Int)-((0:Nat):Int)) 1;rw[e1,h];exact zY7 _ rfl
 ·have e:b=(s.heap.push {cls:=.type "range",data:=.fields #[.int lo t,.int hi u,.int 1 v]}).objs.size:=by simpa using hb
  subst e;exact a.fpOk (zY1 _) (a.hok.fresh (zY1 _))
def zP8 (a:TA):TI:=λσ H R=>a σ H λvs H1=>∃j:Int,vs=[.int j]/\-(2 ^ 62)<=j/\j<2 ^ 62/\R (Itr 0 j.toNat) H1
def zR2 (a:TA):TI:=λσ H R=>a σ H λvs H1=>∃i j:Int,vs=[.int i,.int j]/\(-(2 ^ 62)<=i/\i<2 ^ 62/\-(2 ^ 62)<=j/\j<2 ^ 62)/\R (Itr i (j-i).toNat) H1
theorem fA {a:Expr}{d:TA}{p pos:Pos}(hg:Gl X "range")(hm:X.mg "range"=none)(ha:PA X [a] d)(l:starEach [a] X.env=[(false,eval a X.env)]:=by rfl):PI X tg (.Call (.Name "range" p) [a] [] pos) (zP8 d):=by
 intro pins s σ H R I h;refine Call_ (yT I hg hm boot_range (z30 (thn (ha pos pins s σ H _ I h) λus s1 b=>?_) l rfl));obtain⟨vs,H1,k,g,c⟩:=b;obtain⟨j,e,c,f,q⟩:=c;subst e;cases g with
 |cons r i=>
  cases i;obtain⟨t,rfl⟩:=r;exact call_range_1 (mz k (by decide) (by decide) c f (by simpa using q))
theorem gq {a b:Expr}{g:TA}{p pos:Pos}(hg:Gl X "range")(hm:X.mg "range"=none)(ha:PA X [a,b] g)(v:starEach [a,b] X.env=[(false,eval a X.env),(false,eval b X.env)]:=by rfl)(c:starEach [b] X.env=[(false,eval b X.env)]:=by rfl):
  PI X tg (.Call (.Name "range" p) [a,b] [] pos) (zR2 g):=by
 intro pins s σ H R I h;refine Call_ (yT I hg hm boot_range (z30 (thn (ha pos pins s σ H _ I h) λus s1 ⟨vs,H1,m,l,d⟩=>?_) (by rw[v,c]) (by rw[c];rfl)));obtain⟨i,j,e,⟨d,k,o,n⟩,q⟩:=d;subst e;cases l with
 |cons r f=>
  cases f with
  |cons u f=>
   cases f;obtain⟨t,rfl⟩:=r;obtain⟨t',rfl⟩:=u;exact call_range_2 (mz m d k o n q)
def zU0 (c:TI)(g:TG)(e:TS):TS:=λD σ H=>c σ H λJ H1=>∃W:Nat->Nat->St->Hp->Prop,(∃m,W 0 m σ H1)/\∀i m σ H,W i m σ H->
 (J.stop i H/\D.nx σ H)\/(J.go i H/\∃N:St->Hp->Prop,(∀a H',N a H'->∃b,b<m/\W (i+1) b a H')/\∀x H',J.yld i H x H'->g x σ H' λσ2 d=>e {D with nx:=N,ct:=N,bk:=D.nx} σ2 d)
def sP (fp:List Addr)(h:Heap):List (Addr×Obj):=fp.filterMap λb=>(h.get? b).map λo=>(b,o)
theorem wD {fp:List Addr}{h:Heap}{b:Addr}{o:Obj}(hb:b∈fp)(e:h.get? b=some o):(b,o)∈sP fp h:=List.mem_filterMap.mpr ⟨b,hb,by rw[e];rfl⟩
theorem gp {fp:List Addr}{h:Heap}{p:Addr×Obj}(a:p∈sP fp h):p.1∈fp/\h.get? p.1=some p.2:=by
 obtain⟨b,hb,e⟩:=List.mem_filterMap.mp a;cases q:h.get? b with
 |none=>rw[q]at e;cases e
 |some o=>
  rw[q]at e;have c:(b,o)=p:=z07 e;subst c;exact⟨hb,q⟩
theorem Inv.pinned {pins:List (Addr×Obj)}{σ:St}{H:Hp}{s:Shared}{fp:List Addr}(I:Inv X pins σ H s)(hf:∀b∈fp,xi X pins H b)(c:∀b∈fp,∃o,s.heap.get? b=some o/\∀v,o.data≠.cell v):Inv X (pins++sP fp s.heap) σ H s:=
 I.pins_of λp f=>(z01.mp f).elim (λz=>I.pin p (z05 _ z)) λz=>by
  obtain⟨hb,e⟩:=gp z;obtain⟨f0,f1,f2,_⟩:=hf p.1 hb;obtain⟨o,a,d⟩:=c p.1 hb;rw[e]at a;cases a;exact⟨e,f0,f1,f2,d⟩
theorem Inv.unpinned {pins pl:List (Addr×Obj)}{σ:St}{H:Hp}{s:Shared}(I:Inv X (pins++pl) σ H s):Inv X pins σ H s:=I.pins_of λp a=>I.pin p (z05 _ (z41 _ a))
theorem zB8 {iter:Expr}{body:List Stmt}{R:TI}{g:TG}{Y:TS}{pos:Pos}(C:PassesOwn (model X.prog X.w) X.A X.env X.xe)(S:X.calm=true)(hi:PI X tg iter R)(hg:PG X tg g)(hb:PSs X body Y)
  (hs:∀x,foldedSetIterable iter X.env x=pure x:=by intro _;rfl):PS X (.For tg iter body [] pos) (zU0 R g Y):=by
 intro pins s σ H D I h;refine wpAny_For (thn (hi pins s σ H _ I h) λv s1 Z=>thn Z λa0 s2 h2=>?_) hs;obtain⟨it,fp,tn,J,H2,e,I2,T,Q,f2,W,⟨m0,w0⟩,turn⟩:=h2;subst e
 -- what stays true of the iterator's objects through the loop
 have j:∀{H':Hp},(∀b∈fp,H' b=none)->∀b∈fp,xi X pins H' b:=λhn b hb=>⟨hn b hb,(f2 b hb).2⟩;refine codeAny_forLoop_any (λn s'=>∃i c H',Inv X pins c H' s'/\tn i s'.heap/\(∀b∈fp,H' b=none)/\W i n c H') ?_ m0 ⟨0,σ,H2,I2,Q,λb hb=>(f2 b hb).1,w0⟩;rintro n s3 ⟨i,p,H3,V,G,F,w3⟩;rcases turn i n p H3 w3 with⟨stop,qn⟩|⟨go,N,hN,step⟩
 ·refine z99 C (thn (T.done X rfl rfl rfl S i pins s3 p H3 X.xe V (j F) G stop) λr s4 z=>?_);obtain⟨hr,I4⟩:=z;subst hr;exact yd5 ⟨p,H3,I4,qn⟩
 ·refine z99 C (thn (T.item X rfl rfl rfl S i pins s3 p H3 X.xe V (j F) G go) λr s4 E=>?_);obtain⟨u,hr,h4⟩:=E;subst hr;refine z99 C (thn h4 λ_ s5 B=>?_);obtain⟨x,U,I5,r5,y5,t,O⟩:=B;have M:=I5.pinned (j O) (T.obj _ _ t);refine z99 C (thn (hg _ s5 p U x u _ M r5 (step x U y5)) λ_ s6 K=>?_);obtain⟨P,H6,I6,q6⟩:=K;refine z99 C (thn (hb _ s6 P H6 _ I6 q6) λf L q=>?_);have again:∀{a:St} {l:Hp},Inv X (pins++sP fp s5.heap) a l L->N a l->∃m,m<n/\∃i c H',Inv X pins c H' L/\tn i L.heap/\(∀b∈fp,H' b=none)/\W i m c H':=λ{a l} k y=>by
   obtain⟨m',hm,w7⟩:=hN a l y;refine⟨m',hm,i+1,a,l,k.unpinned,T.keep _ _ _ t λb hb o e=>(k.pin (b,o) (z05 _ (z05 _ (wD hb e)))).1,λb hb=>?_,w7⟩;obtain⟨o,e,d⟩:=T.obj _ _ t b hb;exact(k.pin (b,o) (z05 _ (z05 _ (wD hb e)))).2.1
  cases f with
  |next=>obtain⟨a,l,k,y⟩:=q;exact again k y
  |cont=>obtain⟨a,l,k,y⟩:=q;exact again k y
  |brk=>obtain⟨a,l,k,q⟩:=q;exact⟨a,l,k.unpinned,q⟩
  |ret v=>obtain⟨x7,a,l,k,r7,q⟩:=q;exact⟨x7,a,l,k.unpinned,r7,q⟩
end
abbrev R2 :=V->V->Hp->VK->Prop
def OpR (X:Cx)(f:Value->Value->Sem Value)(r:R2):Prop:=
 ∀(pins:List (Addr×Obj)) (s:Shared) (σ:St) (H:Hp) (x y:V) (v u:Value) (Q:VK),Inv X pins σ H s->RelV x v->RelV y u->r x y H Q->
  wpAny (model X.prog X.w) X.A (f v u) (EP X pins σ Q) X.xe s
def UnR (X:Cx)(f:Value->Sem Value)(r:V->Hp->VK->Prop):Prop:=
 ∀(pins:List (Addr×Obj)) (s:Shared) (σ:St) (H:Hp) (x:V) (v:Value) (Q:VK),Inv X pins σ H s->RelV x v->r x H Q->
  wpAny (model X.prog X.w) X.A (f v) (EP X pins σ Q) X.xe s
def yI (X:Cx)(f:Value)(r:List V->Hp->VK->Prop):Prop:=
 ∀(pins:List (Addr×Obj)) (s:Shared) (σ:St) (H:Hp) (xs:List V) (us:List Value) (Q:VK),Inv X pins σ H s->Vals xs us->r xs H Q->
  wpAny (model X.prog X.w) X.A (call f us) (EP X pins σ Q) X.xe s
def zU4 (X:Cx)(r:V->Hp->(Bool->Hp->Prop)->Prop):Prop:=
 ∀(pins:List (Addr×Obj)) (s:Shared) (σ:St) (H:Hp) (x:V) (v:Value) (Q:Bool->Hp->Prop),Inv X pins σ H s->RelV x v->r x H Q->
  wpAny (model X.prog X.w) X.A (truthy v) (TP X pins σ Q) X.xe s
def tOp (r:R2)(c b:TE):TE:=λσ H Q=>c σ H λx H1=>b σ H1 λy a=>r x y a Q
def tUn (r:V->Hp->VK->Prop)(a:TE):TE:=λσ H Q=>a σ H λx H1=>r x H1 Q
def rI (C:Int->Int->Prop)(g:Int->Int->V):R2:=λx y H Q=>∃i j,x=.int i/\y=.int j/\C i j/\Q (g i j) H
def rI0 (g:Int->Int->V):R2:=λx y H Q=>∃i j,x=.int i/\y=.int j/\Q (g i j) H
def rU (g:Int->V):V->Hp->VK->Prop:=λx H Q=>∃i,x=.int i/\Q (g i) H
section
variable {X:Cx}{a b c:Expr}{ta tb tc:TE}{pos:Pos}
theorem zE7 (ha:PE X a ta)(hb:PE X b tb){pins:List (Addr×Obj)}{s:Shared}{σ:St}{H:Hp}{R:V->V->Hp->Prop}(I:Inv X pins σ H s)
  (h:ta σ H λx H1=>tb σ H1 λy d=>R x y d) {Q:Value->Shared->Prop} {f:Value->Value->Sem Value}
  (hf:∀v u s2 x y d,Inv X pins σ d s2->RelV x v->RelV y u->R x y d->wpAny (model X.prog X.w) X.A (f v u) Q X.xe s2):
  wpAny (model X.prog X.w) X.A (eval a X.env) (λv g=>wpAny (model X.prog X.w) X.A (eval b X.env) (λu i=>wpAny (model X.prog X.w) X.A (f v u) Q X.xe i) X.xe g) X.xe s:=by
 refine thn (ha pins s σ H _ I h) λv s1 j=>?_;obtain⟨x,H1,o,m,l⟩:=j;refine thn (hb pins s1 σ H1 _ o l) λu s2 e=>?_;obtain⟨y,d,p,n,k⟩:=e;exact hf v u s2 x y d p m n k
theorem yk {op:Operator}{r:R2}(f:OpR X (binaryOp op) r)(ha:PE X a ta)(hb:PE X b tb):PE X (.BinOp a op b pos) (tOp r ta tb):=by
 intro pins s σ H Q I h;exact wpAny_BinOp (zE7 ha hb I h λv u s2 x y g i e d q=>f pins s2 σ g x y v u Q i e d q)
theorem zr9 {op:UnaryOp}{r:V->Hp->VK->Prop}(g:UnR X (unaryOp op) r)(ha:PE X a ta):PE X (.UnaryOp op a pos) (tUn r ta):=by
 intro pins s σ H Q I h;exact UnaryOp_ (thn (ha pins s σ H _ I h) λv s1 d=>by obtain⟨x,H1,i,f,e⟩:=d;exact g pins s1 σ H1 x v Q i f e)
theorem opI {f:Value->Value->Sem Value}{C:Int->Int->Prop}{g:Int->Int->Int}
  (rule:∀(i j:Int) (t u:Tok) (s:Shared) (Q:Value->Shared->Prop) (E:Value->Shared->Prop),C i j->Q (.int (g i j) s.toks) {s with toks:=s.toks+1}->wpAny (model X.prog X.w) X.A (f (.int i t) (.int j u)) Q E s):
  OpR X f (rI C λi j=>.int (g i j)):=by
 intro pins s σ H x y v u Q I k e h;obtain⟨i,j,rfl,rfl,d,q⟩:=h;obtain⟨t,rfl⟩:=k;obtain⟨t',rfl⟩:=e;exact rule i j t t' s _ _ d ⟨.int (g i j),H,I.tok _,⟨_,rfl⟩,q⟩
theorem zL1 {f:Value->Value->Sem Value}{g:Int->Int->Int}
  (rule:∀(i j:Int) (t u:Tok) (s:Shared) (Q:Value->Shared->Prop) (E:Value->Shared->Prop),Q (.int (g i j) s.toks) {s with toks:=s.toks+1}->wpAny (model X.prog X.w) X.A (f (.int i t) (.int j u)) Q E s):
  OpR X f (rI0 λi j=>.int (g i j)):=by
 intro pins s σ H x y v u Q I e d h;obtain⟨i,j,rfl,rfl,q⟩:=h;obtain⟨t,rfl⟩:=e;obtain⟨t',rfl⟩:=d;exact rule i j t t' s _ _ ⟨.int (g i j),H,I.tok _,⟨_,rfl⟩,q⟩
theorem zl8 {f:Value->Value->Sem Value}{g:Int->Int->Bool}
  (rule:∀(i j:Int) (t u:Tok) (s:Shared) (Q:Value->Shared->Prop) (E:Value->Shared->Prop),Q (.bool (g i j)) s->wpAny (model X.prog X.w) X.A (f (.int i t) (.int j u)) Q E s):
  OpR X f (rI0 λi j=>.bl (g i j)):=by
 intro pins s σ H x y v u Q I e d h;obtain⟨i,j,rfl,rfl,q⟩:=h;obtain⟨t,rfl⟩:=e;obtain⟨t',rfl⟩:=d;exact rule i j t t' s _ _ ⟨.bl (g i j),H,I,rfl,q⟩
def zH0 (i j:Int):Prop:=0<=j/\j<=1000000/\i.natAbs<2 ^ 64
def zF1 (i j:Int):Prop:=(-(2 ^ 64)<i/\i<2 ^ 64)\/(-(2 ^ 64)<j/\j<2 ^ 64)
theorem zF1.ok {i j:Int}(h:zF1 i j):IntMulOk i j:=by
 rcases h with⟨e,d⟩|⟨e,d⟩
 ·exact .of_left (intBits_le_64 e d)
 ·exact .of_right (intBits_le_64 e d)
theorem uX :OpR X (binaryOp .Add) (rI0 λi j=>.int (i+j)):=zL1 λ_ _ _ _ _ _ _ q=>add_int q
theorem zC9 :OpR X (binaryOp .Sub) (rI0 λi j=>.int (i-j)):=zL1 λ_ _ _ _ _ _ _ q=>sub_int q
theorem sX :OpR X (binaryOp .Mult) (rI zF1 λi j=>.int (i*j)):=opI λ_ _ _ _ _ _ _ d q=>mul_int q d.ok
theorem vS :OpR X (binaryOp .Mod) (rI (λ_ j=>0<j) λi j=>.int (i % j)):=opI λi j _ _ _ _ _ d q=>by
 have e:(0:Int)<j:=d;exact mod_int' (yh1 d) (by rw[Int.fmod_eq_emod_of_nonneg i (Int.le_of_lt d)];exact q)
theorem bX :OpR X (binaryOp .Pow) (rI zH0 λi j=>.int (i ^ j.toNat)):=opI λ_ _ _ _ _ _ _ d q=>pow_int_small d.1 d.2.1 d.2.2 q
theorem unI {f:Value->Sem Value}{g:Int->Int}
  (rule:∀(i:Int) (t:Tok) (s:Shared) (Q:Value->Shared->Prop) (E:Value->Shared->Prop),Q (.int (g i) s.toks) {s with toks:=s.toks+1}->wpAny (model X.prog X.w) X.A (f (.int i t)) Q E s):
  UnR X f (rU λi=>.int (g i)):=by
 intro pins s σ H x v Q I d h;obtain⟨i,rfl,q⟩:=h;obtain⟨t,rfl⟩:=d;exact rule i t s _ _ ⟨.int (g i),H,I.tok _,⟨_,rfl⟩,q⟩
theorem aX :UnR X (unaryOp .USub) (rU λi=>.int (-i)):=unI λ_ _ _ _ _ q=>neg_int q
end
def zM1 :V->V->Bool
 |.non,.non=>true|.non,.int _=>true|.int _,.non=>true|.non,.bl _=>true|.bl _,.non=>true|.non,.str _=>true|.str _,.non=>true
 |.int _,.int _=>true|.bl _,.bl _=>true|.str _,.str _=>true|.byt _,.byt _=>true
 |.int _,.str _=>true|.str _,.int _=>true|.bl _,.str _=>true|.str _,.bl _=>true
 |_,_=>false
def rEq :R2:=λx y H Q=>zM1 x y=true/\Q (.bl (decide (x=y))) H
def rNe :R2:=λx y H Q=>zM1 x y=true/\Q (.bl (!decide (x=y))) H
theorem iF {i j:Int}:decide (V.int i=V.int j)=(i == j):=by
 rw[ya0];simp
theorem bz {i j:Bool}:decide (V.bl i=V.bl j)=(i == j):=by
 rw[ya0];simp
theorem jR {i j:Str}:decide (V.str i=V.str j)=(i == j):=by
 rw[ya0];simp
theorem hJ {i j:Array UInt8}:decide (V.byt i=V.byt j)=(i.toList == j.toList):=by
 rw[ya0];cases i;cases j;simp
section
variable {X:Cx}{a b c:Expr}{ta tb tc:TE}{pos:Pos}
theorem zB {pins:List (Addr×Obj)}{σ:St}{H:Hp}{s:Shared}{Q:VK}{k d:Bool}(I:Inv X pins σ H s)(q:Q (.bl k) H)(e:k=d):EP X pins σ Q (.bool d) s:=by
 subst e;exact⟨.bl k,H,I,rfl,q⟩
theorem ai :OpR X (compareOp .Eq) rEq:=by
 intro pins s σ H x y v u Q I f d h;obtain⟨e,q⟩:=h;cases x with
 |non=>
  cases f;cases y with
  |non=>cases d;exact PySem.EqNone.eq_none_none (zB I q (by simp))
  |bl j=>cases d;exact PySem.EqNone.eq_none_bool (zB I q (by simp))
  |int j=>obtain⟨t',rfl⟩:=d;exact PySem.EqNone.eq_none_int (zB I q (by simp))
  |str j=>obtain⟨t',rfl⟩:=d;exact PySem.EqNone.eq_none_str (zB I q (by simp))
  |_=>exact absurd (show false=true from e) z04
 |bl i=>
  cases f;cases y with
  |non=>cases d;exact PySem.EqNone.eq_bool_none (zB I q (by simp))
  |bl j=>cases d;exact eq_bool (zB I q bz)
  |str j=>obtain⟨t',rfl⟩:=d;exact PySem.EqMixed.eq_bool_str (zB I q (by simp))
  |_=>exact absurd (show false=true from e) z04
 |int i=>
  obtain⟨t,rfl⟩:=f;cases y with
  |non=>cases d;exact PySem.EqNone.eq_int_none (zB I q (by simp))
  |int j=>obtain⟨t',rfl⟩:=d;exact eq_int (zB I q iF)
  |str j=>obtain⟨t',rfl⟩:=d;exact PySem.EqMixed.eq_int_str (zB I q (by simp))
  |_=>exact absurd (show false=true from e) z04
 |str i=>
  obtain⟨t,rfl⟩:=f;cases y with
  |non=>cases d;exact PySem.EqNone.eq_str_none (zB I q (by simp))
  |bl j=>cases d;exact PySem.EqMixed.eq_str_bool (zB I q (by simp))
  |int j=>obtain⟨t',rfl⟩:=d;exact PySem.EqMixed.eq_str_int (zB I q (by simp))
  |str j=>obtain⟨t',rfl⟩:=d;exact eq_str (zB I q jR)
  |_=>exact absurd (show false=true from e) z04
 |byt i=>
  obtain⟨t,rfl⟩:=f;cases y with
  |byt j=>obtain⟨t',rfl⟩:=d;exact PySem.W.eq_bytes (zB I q hJ)
  |_=>exact absurd (show false=true from e) z04
 |_=>cases y<;>exact absurd (show false=true from e) z04
theorem zO4 :OpR X (compareOp .NotEq) rNe:=by
 intro pins s σ H x y v u Q I f d h;obtain⟨e,q⟩:=h;cases x with
 |non=>
  cases f;cases y with
  |non=>cases d;exact PySem.EqNone.ne_none_none (zB I q (by simp))
  |bl j=>cases d;exact PySem.EqNone.ne_none_bool (zB I q (by simp))
  |int j=>obtain⟨t',rfl⟩:=d;exact PySem.EqNone.ne_none_int (zB I q (by simp))
  |str j=>obtain⟨t',rfl⟩:=d;exact PySem.EqNone.ne_none_str (zB I q (by simp))
  |_=>exact absurd (show false=true from e) z04
 |bl i=>
  cases f;cases y with
  |non=>cases d;exact PySem.EqNone.ne_bool_none (zB I q (by simp))
  |bl j=>cases d;exact ne_bool (zB I q (congrArg not bz))
  |str j=>obtain⟨t',rfl⟩:=d;exact PySem.EqMixed.ne_bool_str (zB I q (by simp))
  |_=>exact absurd (show false=true from e) z04
 |int i=>
  obtain⟨t,rfl⟩:=f;cases y with
  |non=>cases d;exact PySem.EqNone.ne_int_none (zB I q (by simp))
  |int j=>obtain⟨t',rfl⟩:=d;exact ne_int (zB I q (congrArg not iF))
  |str j=>obtain⟨t',rfl⟩:=d;exact PySem.EqMixed.ne_int_str (zB I q (by simp))
  |_=>exact absurd (show false=true from e) z04
 |str i=>
  obtain⟨t,rfl⟩:=f;cases y with
  |non=>cases d;exact PySem.EqNone.ne_str_none (zB I q (by simp))
  |bl j=>cases d;exact PySem.EqMixed.ne_str_bool (zB I q (by simp))
  |int j=>obtain⟨t',rfl⟩:=d;exact PySem.EqMixed.ne_str_int (zB I q (by simp))
  |str j=>obtain⟨t',rfl⟩:=d;exact ne_str (zB I q (congrArg not jR))
  |_=>exact absurd (show false=true from e) z04
 |byt i=>
  obtain⟨t,rfl⟩:=f;cases y with
  |byt j=>obtain⟨t',rfl⟩:=d;exact PySem.W.ne_bytes (zB I q (congrArg not hJ))
  |_=>exact absurd (show false=true from e) z04
 |_=>cases y<;>exact absurd (show false=true from e) z04
theorem zv9 :OpR X (compareOp .Lt) (rI0 λi j=>.bl (decide (i<j))):=zl8 λ_ _ _ _ _ _ _ q=>lt_int q
theorem zb0 :OpR X (compareOp .LtE) (rI0 λi j=>.bl (decide (i<=j))):=zl8 λ_ _ _ _ _ _ _ q=>le_int q
theorem iY :OpR X (compareOp .Gt) (rI0 λi j=>.bl (decide (j<i))):=zl8 λ_ _ _ _ _ _ _ q=>gt_int q
theorem zK7 :OpR X (compareOp .GtE) (rI0 λi j=>.bl (decide (j<=i))):=zl8 λ_ _ _ _ _ _ _ q=>ge_int q
theorem zb4 :OpR X (compareOp .Is) (λx y H Q=>y=.non/\Q (.bl (decide (x=.non))) H):=by
 intro pins s σ H x y v u Q I d e h;obtain⟨rfl,q⟩:=h;cases e;refine is_none_gen (zB I q ?_);cases x<;>first
  |(cases d;rfl)
  |(obtain⟨t,rfl⟩:=d;rfl)
theorem zj9 :OpR X (compareOp .IsNot) (λx y H Q=>y=.non/\Q (.bl (!decide (x=.non))) H):=by
 intro pins s σ H x y v u Q I d e h;obtain⟨rfl,q⟩:=h;cases e;refine isnot_none_gen (zB I q ?_);cases x<;>first
  |(cases d;rfl)
  |(obtain⟨t,rfl⟩:=d;rfl)
theorem yt (b:Expr){op:CmpOp}(h:op≠.In:=by decide)(d:op≠.NotIn:=by decide):behindInMarks op b=false:=by
 have e1:(op == CmpOp.In)=false:=by cases op<;>first|rfl|exact absurd rfl h
 have e:(op == CmpOp.NotIn)=false:=by cases op<;>first|rfl|exact absurd rfl d
 cases b<;>simp[behindInMarks,e1,e]
theorem oZ {op:CmpOp}{r:R2}(f:OpR X (compareOp op) r)(ha:PE X a ta)(hb:PE X b tb)(hm:behindInMarks op b=false):PE X (.Compare a [op] [b] pos) (tOp r ta tb):=by
 intro pins s σ H Q I h;exact wpAny_Compare1 (zE7 ha hb I h λv u s2 x y g i e d q=>f pins s2 σ g x y v u Q i e d q) hm
def zQ9 (t:TE):TT:=λσ H Q=>t σ H λx H'=>∃k,x=.bl k/\Q k H'
theorem vC {op:CmpOp}{r:R2}(j:OpR X (compareOp op) r)(ha:PE X a ta)(hb:PE X b tb)(hm:behindInMarks op b=false):PT X (.Compare a [op] [b] pos) (zQ9 (tOp r ta tb)):=by
 intro pins s σ H Q I h;refine wpAny_isTrue_Compare1 (thn (ha pins s σ H _ I h) λv s1 ⟨x,H1,m,g,f⟩=>thn (hb pins s1 σ H1 _ m f) λu s2 ⟨y,l,o,i,d⟩=>
  thn (j pins s2 σ l x y v u _ o g i d) λc s3 ⟨z,H3,n,q,k,e,p⟩=>?_) hm
 subst e;cases q;exact z53 ⟨H3,n,p⟩
def zE6 (r f:R2)(ta tb tc:TE):TE:=λσ H Q=>ta σ H λx H1=>tb σ H1 λy e=>r x y e λz H3=>∃k,z=.bl k/\
 (if k=true then tc σ H3 λd g=>f y d g Q else Q (.bl false) H3)
theorem dZ {op f:CmpOp}{r l:R2}(F:OpR X (compareOp op) r)(g:OpR X (compareOp f) l)(ha:PE X a ta)(hb:PE X b tb)(C:PE X c tc)
  (hm:lastMarks [op,f] [b,c]=false:=by with_unfolding_all rfl):PE X (.Compare a [op,f] [b,c] pos) (zE6 r l ta tb tc):=by
 intro pins s σ H Q I h;refine Compare_chain (thn (ha pins s σ H _ I h) λv s1 ⟨x,H1,w,o,D⟩=>chain_link (thn (hb pins s1 σ H1 _ w D) λu s2 ⟨y,t,A,i,n⟩=>
  thn (F pins s2 σ t x y v u _ A o i n) λd s3 ⟨z,H3,j,B,k,e,m⟩=>?_)) hm
 subst e;cases B;refine z53 ?_;cases k with
 |false=>exact ite_ff ⟨.bl false,H3,j,rfl,m⟩
 |true=>exact ite_tt (chain_last (thn (C pins s3 σ H3 _ j m) λq s4 ⟨p,K,G,J,E⟩=>g pins s4 σ K y p u q Q G i J E))
def zS8 (K:PySem.W.Frag)(x:V)(H:Hp)(k:Bool):Prop:=
 match x with
 |.non=>k=false
 |.bl b=>k=b
 |.int i=>k=(i != 0)
 |.str y=>y.length<=sizeLine/\k=((y.length:Int) != 0)
 |.byt y=>y.size<=sizeLine/\k=((y.size:Int) != 0)
 |.ref p=>(∃xs,SqL K H p xs/\k=!xs.isEmpty)\/(∃xs,SqT K H p xs/\k=!xs.isEmpty)\/∃kvs,H p=some (.dK kvs)/\k=!kvs.isEmpty
 |_=>False
theorem kN {d:Type}{kvs:List (d×V)}{vs:List (d×Value)}(r:KV kvs vs):(!vs.isEmpty)=!kvs.isEmpty:=by
 cases r<;>rfl
theorem sZ {xs:List V}{its:List Value}(r:Vals xs its):(!its.toArray.isEmpty)=!xs.isEmpty:=by
 cases r<;>simp
theorem uQ :(sizeLine:Nat)<2 ^ 63:=by rw[z29];decide
theorem zB1 :zU4 X (λx H Q=>∃k,zS8 X.K x H k/\Q k H):=by
 intro pins s σ H x v Q I f h;obtain⟨k,e,q⟩:=h;have n:=uQ;have j:sizeLine=16777216:=z29;cases x with
 |non=>
  cases f;have d:k=false:=e;subst d;exact truthy_none ⟨H,I,q⟩
 |bl b=>
  cases f;have d:k=b:=e;subst d;exact z53 ⟨H,I,q⟩
 |int i=>
  obtain⟨t,rfl⟩:=f;have d:k=(i != 0):=e;subst d;exact PySem.P.truthy_int ⟨H,I,q⟩
 |str y=>
  obtain⟨t,rfl⟩:=f;obtain⟨hy,d⟩:y.length<=sizeLine/\k=((y.length:Int) != 0):=e;subst d;exact PySem.P.truthy_str (zM6 j hy) ⟨H,I.tok _,q⟩
 |byt y=>
  obtain⟨t,rfl⟩:=f;obtain⟨hy,d⟩:y.size<=sizeLine/\k=((y.size:Int) != 0):=e;subst d;exact PySem.W.truthy_bytes (zR9 j hy) ⟨H,I.tok _,q⟩
 |ref p=>
  cases f;have d:(∃xs,SqL X.K H p xs/\k=!xs.isEmpty)\/(∃xs,SqT X.K H p xs/\k=!xs.isEmpty)\/∃kvs,H p=some (.dK kvs)/\k=!kvs.isEmpty:=e;rcases d with⟨xs,g,d⟩|⟨xs,g,d⟩|⟨kvs,g,d⟩
  ·subst d;obtain⟨its,r,pl,hz⟩:=I.list g;have hlen:=r.length;exact wpAny_truthy_list pl.isList (by simp only[zZ0];exact cP j hlen hz) ⟨H,I.tok _,by rw[sZ r];exact q⟩
  ·subst d;obtain⟨its,r,pl,hz⟩:=I.tuple g;have hlen:=r.length;exact truthy_tuple pl (by simp only[zZ0];exact cP j hlen hz) ⟨H,I.tok _,by rw[sZ r];exact q⟩
  ·subst d;obtain⟨hz,l,vs,r,m⟩:kvs.length<=sizeLine/\(p == sysModules)=false/\∃vs,KV kvs vs/\s.heap.DictOf (zJ X.prog X.w) p vs:=I.hok p _ g;have hlen:kvs.length=vs.length:=Paired.length r;exact wpAny_truthy_dict l m (cP j hlen hz) ⟨H,I.tok _,by rw[kN r];exact q⟩
 |_=>exact(show False from e).elim
theorem ah (ha:PE X a ta)(he:∀whole,isTrue a X.env whole=(do let v <-whole;standAt a.pos;holding [v] (truthy v))):
  PT X a (λσ H Q=>ta σ H λx H'=>∃k,zS8 X.K x H' k/\Q k H'):=by
 intro pins s σ H Q I h;exact isTrue_plain (thn (ha pins s σ H _ I h) λv s1 d=>by obtain⟨x,H1,g,f,e⟩:=d;exact zB1 pins s1 σ H1 x v Q g f e) (he _)
theorem vals1 {x:V}{us:List Value}(r:Vals [x] us):∃u,us=[u]/\RelV x u:=by
 cases r with
 |cons e d=>cases d;exact⟨_,rfl,e⟩
theorem vals2 {x y:V}{us:List Value}(r:Vals [x,y] us):∃u d,us=[u,d]/\RelV x u/\RelV y d:=by
 cases r with
 |cons e g=>
  cases g with
  |cons h f=>cases f;exact⟨_,_,rfl,e,h⟩
theorem mI :yI X (.builtin "abs") (λxs H Q=>∃i,xs=[.int i]/\Q (.int (if i<0 then -i else i)) H):=by
 intro pins s σ H xs us Q I r h;obtain⟨i,rfl,q⟩:=h;obtain⟨u,rfl,t,rfl⟩:=vals1 r;exact call_abs_int λu tk=>⟨.int (if i<0 then -i else i),H,I.tok _,⟨_,rfl⟩,q⟩
theorem gh (e:X.calm=true):yI X (.builtin "min") (λxs H Q=>∃i j,xs=[.int i,.int j]/\Q (.int (if j<i then j else i)) H):=by
 intro pins s σ H xs us Q I r h;obtain⟨i,j,rfl,q⟩:=h;obtain⟨u,f,rfl,⟨t,rfl⟩,⟨t',rfl⟩⟩:=vals2 r;refine min_two_ints (I.ok.hd e) λh' tk k=>⟨_,H,I.kept k,?_,q⟩;by_cases d:j<i
 ·rw[if_pos d,if_pos d];exact⟨_,rfl⟩
 ·rw[if_neg d,if_neg d];exact⟨_,rfl⟩
end
structure jl (h:Heap)(x dx C:Addr)(mA:Str->Option Value):Prop where
 obj:h.get? x=some (PySem.W.instObj C dx)
 ns:h.Ns1 dx mA
 ne:dx≠x
theorem fB {h:Heap}{dx:Addr}{mA:Str->Option Value}(n:h.Ns1 dx mA):∃od,h.get? dx=some od/\∀name,PySem.W.lookIn name od=some (mA name):=by
 obtain⟨o,c,g,d,hd,hk,_,hm⟩:=n;refine⟨o,d,λname=>?_⟩;have e:=hm name;unfold nsFind findBy at e;rw[<-Array.find?_toList]at e;unfold PySem.W.lookIn;rw[hd];dsimp only;split
 ·rename_i y q;rw[q]at e;exact congrArg some e
 ·rename_i q;rw[q]at e;have a:c.toList.any (·.refKey)=false:=by
   rw[yf6];intro y hy;obtain⟨z,t,b⟩:=hk y (Array.mem_toList_iff.mp hy);simp[DictEntry.refKey,b]
  have f:¬c.toList.any (·.refKey)=true:=by rw[a];exact z04
  rw[if_neg f];exact congrArg some e
theorem jl.look {h:Heap}{x dx C:Addr}{mA:Str->Option Value}(I:jl h x dx C mA):∃od,PySem.W.InstAt h x (PySem.W.instObj C dx) C (some od)/\∀name,PySem.W.lookIn name od=some (mA name):=
 let⟨od,ho,hl⟩:=fB I.ns
 ⟨od,⟨I.obj,rfl,rfl,ho⟩,hl⟩
section
variable {prog:Program}{w:World}{A:Around}{E:Value->Shared->Prop}{s:Shared}{K:PySem.W.Frag}{x dx C f:Addr}{mA:Str->Option Value}{name:Str}{v:Value}
theorem get_map {expr:Bool}{Q:Value->Shared->Prop}(X:K.In s.heap)(I:jl s.heap x dx C mA)(hg:PySem.W.plainGet K C name=true)(c:PySem.W.hasDictIn K C=true)
  (ha:PySem.W.findIn K (.ref C) name=some none) (b:mA name=some v) (a:PySem.W.handedIn v=true) (h:Q v {s with toks:=s.toks+1}):
  wpAny (model prog w) A (getAttr (.ref x) name expr) Q E s:=by
 obtain⟨od,J,d⟩:=I.look;exact PySem.W.get_value X J (yi1 hg).1 (PySem.W.findObj_own c ha rfl (by rw[d,b])) a h
theorem zf3 {pl:Sem Bool}{Q:Value×List Value->Shared->Prop}(X:K.In s.heap)(I:jl s.heap x dx C mA)(hg:PySem.W.plainGet K C name=true)
  (hf:PySem.W.findIn K (.ref C) name=some (some (.ref f))) (c:PySem.W.isFn K (.ref f)=true) (a:mA name=none) (h:Q (.ref f,[.ref x]) s):
  wpAny (model prog w) A (getMethod (.ref x) name pl) Q E s:=by
 obtain⟨od,J,b⟩:=I.look;exact PySem.W.method_fn X J (yi1 hg).1 (yi1 hg).2 hf (yc6.mp c) (by show(PySem.W.lookIn name od).map (·.isSome)=some false;rw[b,a];rfl) h
theorem zl2 {ns:List Str}{Q:Unit->Shared->Prop}(X:K.In s.heap)(I:jl s.heap x dx C mA)
  (t:PySem.W.findIn K (.ref C) "__setattr__"=some (some (.builtin "object.__setattr__"))) (p:PySem.W.plainOver K C=true) (o:PySem.W.takerIn K C name=some none) (q:PySem.W.hasDictIn K C=true)
  (hw:PySem.Within mA ns) (hsz:ns.length<=sizeLine)
  (h:∀h',jl h' x dx C (λy=>if y=name then some v else mA y)->Heap.SameBut dx s.heap h'->Q () {s with heap:=h',toks:=s.toks+2}):
  wpAny (model prog w) A (setAttr (.ref x) name v) Q E s:=by
 obtain⟨od,J,z⟩:=I.look;refine PySem.W.set_plain X J t (PySem.W.osa_open (s:={s with toks:=s.toks+1}) (r:=none) X J p o λb=>?_);obtain⟨cd,k,e⟩:=PySem.W.any_some q;have n:s.heap.get? x=some ⟨.ref C,some dx,.plain,#[]⟩:=I.obj;refine zX5 (zY3 (zX5 (zX5 (wpAny_loadPart n (zX5 (PySem.W.Looks.here (s:={s with toks:=s.toks+1}) (PySem.W.looks_clsIn X k) ?_))))));rw[e];refine zY3 (a:=some dx) (zX5 (zY3 (zX5 ?_)));refine wpAny_nsSet1 (s:={s with toks:=s.toks+1}) I.ns λh' c d=>?_;obtain⟨u,m,l,j,g,i⟩:=c.count (PySem.Within.cons name v hw);refine zX5 (wpAny_lookBehind j (by rw[g];exact pastItsLine_dict (zY8 i (by rw[z00];exact Nat.add_le_add hsz (zY1 _)))) ?_);exact zY3 (h _ ⟨(d.2 _ (z24 I.ne)).trans I.obj,c,I.ne⟩ d)
theorem zb5 {R:Result->Shared->Prop}{vs:List Value}{kw:List (Str×Value)}(X:K.In s.heap)(hm:PySem.W.makesIn K C=true)
  (hi:PySem.W.findIn K (.ref C) "__init__"=some (some (.ref f))) (hf:PySem.W.typeIn K (.ref f)=some (.type "function"))
  (h:codeAny (model prog w) (A.under (.builtin "type.__call__" ⟨.ref C::vs,kw⟩)) (.call (.ref f) ⟨.ref (s.heap.objs.size+1)::vs,kw⟩) (PySem.W.InitBack (s.heap.objs.size+1) R)
   {s with heap:=(s.heap.push PySem.W.emptyDict).push (PySem.W.instObj C s.heap.objs.size)}):
  codeAny (model prog w) A (.call (.ref C) ⟨vs,kw⟩) R s:=by
 obtain⟨a,g,d,t,os⟩:=s;exact PySem.W.make_core (PySem.W.makes_of X hm) (PySem.W.looks_findIn X hi) (λself=>PySem.W.bind_fn X self hf) (.inl rfl) h
end
def xV (f:Str)(v:V):List (Str×V)->List (Str×V)
 |[]=>[(f,v)]
 |(g,x)::r=>if g=f then(g,v)::r else(g,x)::xV f v r
theorem uZ (f g:Str)(v:V):∀fs:List (Str×V),(xV f v fs).lookup g=if g=f then some v else fs.lookup g
 |[]=>by
  show List.lookup g [(f,v)]=_;by_cases h:g=f
  ·have hb:(g == f)=true:=yc6.mpr h;simp only[List.lookup,hb,if_pos h]
  ·have hb:(g == f)=false:=z79.mpr h;simp only[List.lookup,hb,if_neg h]
 |(k,x)::r=>by
  have a:=uZ f g v r;rw[show xV f v ((k,x)::r)=(if k=f then(k,v)::r else(k,x)::xV f v r)from rfl];by_cases hk:k=f
  ·rw[if_pos hk];by_cases h:g=k
   ·have hb:(g == k)=true:=yc6.mpr h;simp only[List.lookup,hb,if_pos (h.trans hk)]
   ·have hb:(g == k)=false:=z79.mpr h;simp only[List.lookup,hb,if_neg (λe:g=f=>h (e.trans hk.symm))]
  ·rw[if_neg hk];by_cases h:g=k
   ·have hb:(g == k)=true:=yc6.mpr h;simp only[List.lookup,hb,if_neg (λe:g=f=>hk (h.symm.trans e))]
   ·have hb:(g == k)=false:=z79.mpr h;simp only[List.lookup,hb];exact a
theorem uY (f:Str)(v:V):∀fs:List (Str×V),f∈(xV f v fs).map (·.1)/\∀g,g∈fs.map (·.1)->g∈(xV f v fs).map (·.1)
 |[]=>⟨by simp[xV],λg h=>by simp at h⟩
 |(k,x)::r=>by
  obtain⟨i1,i2⟩:=uY f v r;rw[show xV f v ((k,x)::r)=(if k=f then(k,v)::r else(k,x)::xV f v r)from rfl];by_cases hk:k=f
  ·rw[if_pos hk];subst hk;exact⟨by simp,λg h=>by simpa using h⟩
  ·rw[if_neg hk];refine⟨?_,λg h=>?_⟩
   ·rw[z03];exact zY6 _ i1
   ·rw[z03]at h ⊢;rcases zY4.mp h with e|e
    ·exact zY4.mpr (.inl e)
    ·exact zY6 _ (i2 g e)
theorem tq (f:Str)(v:V):∀fs:List (Str×V),(xV f v fs).length<=fs.length+1
 |[]=>by simp[xV]
 |(k,x)::r=>by
  have a:=tq f v r;rw[show xV f v ((k,x)::r)=(if k=f then(k,v)::r else(k,x)::xV f v r)from rfl];by_cases hk:k=f
  ·rw[if_pos hk,z00,z00];exact zZ3 _ _
  ·rw[if_neg hk,z00,z00];exact Nat.add_le_add a (zY1 _)
theorem vJ.some_of {v:V}{o:Option Value}(r:vJ (some v) o):∃u,o=some u/\RelV v u:=by
 cases o with
 |none=>exact(show False from r).elim
 |some u=>exact⟨u,rfl,r⟩
theorem vJ.none_of {o:Option Value}(r:vJ none o):o=none:=by
 cases o with
 |none=>rfl
 |some u=>exact(show False from r).elim
theorem fO {v:V}{u:Value}(r:RelV v u):PySem.W.handedIn u=true:=by
 cases v with
 |non=>cases(show u=Value.none from r);rfl
 |bl b=>cases(show u=Value.bool b from r);rfl
 |int i=>obtain⟨t,e⟩:=(show ∃t,u=Value.int i t from r);cases e;rfl
 |str x=>obtain⟨t,e⟩:=(show ∃t,u=Value.str x t from r);cases e;rfl
 |byt b=>obtain⟨t,e⟩:=(show ∃t,u=Value.bytes b t from r);cases e;rfl
 |flt b=>obtain⟨t,e⟩:=(show ∃t,u=Value.float b t from r);cases e;rfl
 |ref a=>cases(show u=Value.ref a from r);rfl
 |ty n=>cases(show u=Value.type n from r);rfl
section
variable {P:Program}{w:World}{H H':Hp}{h h':Heap}{a C dx:Addr}{fs fs':List (Str×V)}
theorem tT (hok:HOk P w H h)(e:H a=some (.ins C dx fs)):∃mA,jl h a dx C mA/\(∀f,vJ (fs.lookup f) (mA f))/\PySem.Within mA (fs.map (·.1))/\fs.length<=1000/\H dx=some (.own a):=by
 obtain⟨d,z,ne,ob,mA,n,r,q⟩:=(show zA P w H h a (.ins C dx fs)from hok a _ e);exact⟨mA,⟨ob,n,ne⟩,r,q,z,d⟩
end
structure Cls (K:PySem.W.Frag)(C:Addr):Prop where
 pg:PySem.W.plainGet K C Str.empty=true
 hd:PySem.W.hasDictIn K C=true
 po:PySem.W.plainOver K C=true
 sa:PySem.W.findIn K (.ref C) "__setattr__"=some (some (.builtin "object.__setattr__"))
theorem Cls.get {K:PySem.W.Frag}{C:Addr}(c:Cls K C)(f:Str):PySem.W.plainGet K C f=true:=c.pg
def yw (K:PySem.W.Frag)(C:Addr)(f:Str):Prop:=PySem.W.findIn K (.ref C) f=some none
theorem yw.taker {K:PySem.W.Frag}{C:Addr}{f:Str}(n:yw K C f):PySem.W.takerIn K C f=some none:=by
 unfold PySem.W.takerIn;rw[show PySem.W.findIn K (.ref C) f=some none from n];rfl
structure Meth (K:PySem.W.Frag)(C:Addr)(m:Str)(f:Addr):Prop where
 at_:PySem.W.findIn K (.ref C) m=some (some (.ref f))
 fn:PySem.W.isFn K (.ref f)=true
 kp:PySem.W.keepIn K (.ref f)=true
section
variable {X:Cx}{pins:List (Addr×Obj)}{σ:St}{H:Hp}{s:Shared}{a C dx:Addr}{fs:List (Str×V)}{f:Str}{v:V}{A:Around}{E:Value->Shared->Prop}
theorem lW {b:Bool}{Q:Value->Shared->Prop}(I:Inv X pins σ H s)(e:H a=some (.ins C dx fs))(c:Cls X.K C)(n:yw X.K C f)(l:fs.lookup f=some v)
  (h:∀u s',Inv X pins σ H s'->RelV v u->Q u s'):wpAny (model X.prog X.w) A (getAttr (.ref a) f b) Q E s:=by
 obtain⟨mA,O,r,_,_,_⟩:=tT I.hok e;obtain⟨u,g,d⟩:=vJ.some_of (v:=v) (o:=mA f) (by rw[<-l];exact r f);exact get_map I.kIn O (c.get f) c.hd n g (fO d) (h u _ (I.tok _) d)
theorem vX {m:Str}{g:Addr}{pl:Sem Bool}{Q:Value×List Value->Shared->Prop}(I:Inv X pins σ H s)(e:H a=some (.ins C dx fs))(c:Cls X.K C)(k:Meth X.K C m g)(l:fs.lookup m=none)
  (h:Q (.ref g,[.ref a]) s):wpAny (model X.prog X.w) A (getMethod (.ref a) m pl) Q E s:=by
 obtain⟨mA,O,r,_,_,_⟩:=tT I.hok e;have hn:mA m=none:=vJ.none_of (by rw[<-l];exact r m);exact zf3 I.kIn O (c.get m) k.at_ k.fn hn h
theorem je {y:V}{u:Value}{Q:Unit->Shared->Prop}(I:Inv X pins σ H s)(e:H a=some (.ins C dx fs))(c:Cls X.K C)(n:yw X.K C f)(m:fs.length<1000)(l:RelV y u)
  (h:∀s',Inv X pins σ (upd H a (.ins C dx (xV f y fs))) s'->Q () s'):wpAny (model X.prog X.w) A (setAttr (.ref a) f u) Q E s:=by
 obtain⟨mA,O,r,i,_,j⟩:=tT I.hok e;have hz:(fs.map (·.1)).length<=sizeLine:=by rw[zX7,z29];lia
 refine zl2 I.kIn O c.sa c.po n.taker c.hd i hz λh' d k=>h _ ?_;have hd:∃o,h'.get? dx=some o:=let⟨o,_,_,e',_⟩:=d.ns;⟨o,e'⟩;refine I.write (x:=a) (e:=dx) (by rw[e];exact True.intro) (.inr j) (λb q hb z=>(k.2 b hb).trans z) hd ?_;refine⟨by rw[zc O.ne];exact j,?_,O.ne,d.obj,_,d.ns,λg=>?_,λg hg=>?_⟩
 ·have:=tq f y fs;exact zY8 this m
 ·show vJ ((xV f y fs).lookup g) (if g=f then some u else mA g);rw[uZ];by_cases q:g=f
  ·rw[if_pos q,if_pos q];exact l
  ·rw[if_neg q,if_neg q];exact r g
 ·by_cases q:g=f
  ·rw[q];exact(uY f y fs).1
  ·refine(uY f y fs).2 g (i g λz=>hg ?_);show(if g=f then some u else mA g)=none;rw[if_neg q];exact z
theorem Inv.made (I:Inv X pins σ H s):Inv X pins σ (upd (upd H s.heap.objs.size (.own (s.heap.objs.size+1))) (s.heap.objs.size+1) (.ins C s.heap.objs.size []))
  {s with heap:=(s.heap.push PySem.W.emptyDict).push (PySem.W.instObj C s.heap.objs.size)}:=by
 have e1:(s.heap.push PySem.W.emptyDict).get? s.heap.objs.size=some PySem.W.emptyDict:=zY7 s.heap rfl;have g:((s.heap.push PySem.W.emptyDict).push (PySem.W.instObj C s.heap.objs.size)).get? (s.heap.objs.size+1)=some (PySem.W.instObj C s.heap.objs.size):=by
  have:=zY7 (s.heap.push PySem.W.emptyDict) (o:=PySem.W.instObj C s.heap.objs.size) rfl
  rwa [z54]at this
 have d:(s.heap.push PySem.W.emptyDict).Ns s.heap.objs.size (λ_=>none):=⟨PySem.W.emptyDict,#[],_,e1,rfl,(λe he=>absurd he (by simp)),λ_=>rfl⟩;have c:=I.laid (a:=s.heap.objs.size) (o:=.own (s.heap.objs.size+1)) (h':=s.heap.push PySem.W.emptyDict) (t':=s.toks) (λb u q=>zX6 _ q) (zY1 _) ⟨_,e1⟩;refine c.laid (a:=s.heap.objs.size+1) (o:=.ins C s.heap.objs.size []) (t':=s.toks) (λb u q=>zX6 _ q) (zZ5 (z54 _ _)) ?_;have ne:s.heap.objs.size≠s.heap.objs.size+1:=zZ7 (z52 _);refine⟨by rw[zc ne,zf],zZ4 _,ne,g,λ_=>none,(Heap.Ns1.of_empty d).at λo q=>zX6 _ q,λ_=>True.intro,λy hy=>absurd rfl hy⟩
theorem zm2 {prog:Program}{w:World}{env:Env}{e:Expr}{f:Str}{pos:Pos}{s:Shared}{Q:Value->Shared->Prop}(hb:attributeBase e f env (eval e env)=eval e env)
  (h:wpAny (model prog w) A (eval e env) (λo b=>wpAny (model prog w) A (getAttr o f true) Q E b) E s):wpAny (model prog w) A (eval (.Attribute e f pos) env) Q E s:=
 Attribute_any_ h (by rw[arm_eval_Attribute,hb])
end
def zU1 (K:PySem.W.Frag)(b:TE)(f:Str):TE:=λσ H Q=>b σ H λx H1=>∃a C dx fs v,x=.ref a/\H1 a=some (.ins C dx fs)/\Cls K C/\yw K C f/\fs.lookup f=some v/\Q v H1
def zU8 (K:PySem.W.Frag)(d c:TE)(f:Str):TS:=λD σ H=>c σ H λy H1=>d σ H1 λx b=>∃a C dx fs,x=.ref a/\b a=some (.ins C dx fs)/\Cls K C/\yw K C f/\fs.length<1000/\
 D.nx σ (upd b a (.ins C dx (xV f y fs)))
section
variable {X:Cx}{o e value:Expr}{f:Str}{pos pos' tpos:Pos}{ta tv:TE}
theorem zA6 (he:PE X e ta)(hb:attributeBase e f X.env (eval e X.env)=eval e X.env):PE X (.Attribute e f pos) (zU1 X.K ta f):=by
 intro pins s σ H Q I h;refine zm2 hb (thn (he pins s σ H _ I h) λu s1 b=>?_);obtain⟨x,H1,i,d,a,C,dx,fs,v,ex,g,c,n,l,q⟩:=b;subst ex;obtain rfl:u=Value.ref a:=d;exact lW i g c n l λm s2 k j=>⟨v,H1,k,j,q⟩
theorem nc (ha:PE X o ta)(j:PE X value tv)(t:swapsWith value (some (.Attribute o f pos')) pos.line X.env=pure false):PS X (.Assign [.Attribute o f pos'] value pos) (zU8 X.K ta tv f):=by
 intro pins s σ H D I h;refine plainObj_wpAny_Assign_Attribute (thn (j pins s σ H _ I h) λu s1 ⟨y,H1,m,g,q⟩=>thn (ha pins s1 σ H1 _ m q) λb s2 ⟨x,v,r,i,a,C,dx,fs,ex,k,c,n,l,d⟩=>?_) t;subst ex;obtain rfl:b=Value.ref a:=i;exact je r k c n l g λs3 p=>⟨σ,_,p,d⟩
theorem zu3 {pl:Sem Bool}{m:Str}{apos:Pos}{args:List Expr}{pins:List (Addr×Obj)}{s:Shared}{σ:St}{H:Hp}{Q:Value->Shared->Prop}{d:TE}(he:PE X e d)(I:Inv X pins σ H s)
  (h:d σ H λx H1=>∃a C dx fs g,x=.ref a/\H1 a=some (.ins C dx fs)/\Cls X.K C/\Meth X.K C m g/\fs.lookup m=none/\
   ∀s1,Inv X pins σ H1 s1->wpAny (model X.prog X.w) X.A (callWith pos (.ref g) [.ref a] (backTo pos (starEach args X.env)) (backToKw pos (keywordEach [] X.env))) Q X.xe s1)
  (j:eval (.Call (.Attribute e m apos) args [] pos) X.env=(do
   let ov <-eval e X.env
   standAt apos.atName
   let(f,first) <-holding [ov] (getMethod ov m pl)
   callWith pos f first (backTo pos (starEach args X.env)) (backToKw pos (keywordEach [] X.env)))):
  wpAny (model X.prog X.w) X.A (eval (.Call (.Attribute e m apos) args [] pos) X.env) Q X.xe s:=by
 refine yg7 (pl:=pl) (thn (he pins s σ H _ I h) λu s1 b=>?_) j;obtain⟨x,H1,i,p,a,C,dx,fs,g,ex,n,c,k,l,q⟩:=b;subst ex;obtain rfl:u=Value.ref a:=p;exact vX i n c k l (q s1 i)
end
section
variable {X:Cx}{pins:List (Addr×Obj)}{σ:St}{H:Hp}{s:Shared}{A:Around}{E:Value->Shared->Prop}{Q:Value->Shared->Prop}{c:Value}{b:Bool}
inductive uz (K:PySem.W.Frag)(H:Hp):V->Value->Prop where
 |non:uz K H .non (.type "NoneType")
 |bl (x:Bool):uz K H (.bl x) (.type "bool")
 |int (i:Int):uz K H (.int i) (.type "int")
 |str (x:Str):uz K H (.str x) (.type "str")
 |flt (x:UInt64):uz K H (.flt x) (.type "float")
 |lst {a:Addr}{xs:List V} (e:H a=some (.lst xs)):uz K H (.ref a) (.type "list")
 |frz {a:Addr}{o:Obj}{xs:List V} (e:H a=some (.frz o (.lst xs))):uz K H (.ref a) (.type "list")
 |tup {a:Addr}{xs:List V} (e:H a=some (.tup xs)):uz K H (.ref a) (.type "tuple")
 |dK {a:Addr}{kvs:List (Key×V)} (e:H a=some (.dK kvs)):uz K H (.ref a) (.type "dict")
 |dT {a:Addr}{kvs:List (List Key×V)} (e:H a=some (.dT kvs)):uz K H (.ref a) (.type "dict")
 |ins {a C dx:Addr}{fs:List (Str×V)} (e:H a=some (.ins C dx fs)) (cl:Cls K C) (ha:PySem.W.findIn K (.ref C) "__class__"=some (some (.builtin "object.__class__")))
   (hn:PySem.W.specialIn K (.builtin "object.__class__") "__get__"=some (some (.builtin "getset_descriptor.__get__"))) (htk:PySem.W.takesIn K (.builtin "object.__class__")=some true)
   (hm:PySem.W.mroIn K C (.type "object")=some true):uz K H (.ref a) (.ref C)
theorem gR {x:V}{u t:Value}(I:Inv X pins σ H s)(d:RelV x u)(ty:uz X.K H x t)(e:PySem.W.kitOne X.K t c=some b)(h:∀tk,Q (.bool b) {s with toks:=tk}):
  wpAny (model X.prog X.w) A (call (.builtin "isinstance") [u,c]) Q E s:=by
 cases ty with
 |non=>cases(show u=Value.none from d);exact z59 PySem.W.kitx_none I.kIn True.intro e (λz=>nomatch z) h
 |bl y=>cases(show u=Value.bool y from d);exact z59 PySem.W.kitx_bool I.kIn True.intro e (λz=>nomatch z) h
 |int i=>obtain⟨t,q⟩:=(show ∃t,u=Value.int i t from d);cases q;exact z59 PySem.W.kitx_int I.kIn True.intro e (λz=>nomatch z) h
 |str y=>obtain⟨t,q⟩:=(show ∃t,u=Value.str y t from d);cases q;exact z59 PySem.W.kitx_str I.kIn True.intro e (λz=>nomatch z) h
 |flt y=>obtain⟨t,q⟩:=(show ∃t,u=Value.float y t from d);cases q;exact z59 PySem.W.kitx_float I.kIn True.intro e (λz=>nomatch z) h
 |@lst a xs ea=>
  cases(show u=Value.ref a from d);obtain⟨_,_,n,_,f⟩:=(show zA X.prog X.w H s.heap a (.lst xs)from I.hok a _ ea);exact z59 PySem.W.kitx_list I.kIn ⟨_,f,rfl⟩ e (λz=>nomatch z) h
 |@frz a ob xs ea=>
  cases(show u=Value.ref a from d);obtain⟨_,_,_,n,_,f⟩:=(show zA X.prog X.w H s.heap a (.frz ob (.lst xs))from I.hok a _ ea);exact z59 PySem.W.kitx_list I.kIn ⟨_,f,rfl⟩ e (λz=>nomatch z) h
 |@tup a xs ea=>
  cases(show u=Value.ref a from d);obtain⟨_,_,_,p⟩:=(show zA X.prog X.w H s.heap a (.tup xs)from I.hok a _ ea);obtain⟨o,f,g,_⟩:=p;exact z59 PySem.W.kitx_tuple I.kIn ⟨o,f,g⟩ e (λz=>nomatch z) h
 |@dK a kvs ea=>
  cases(show u=Value.ref a from d);obtain⟨_,_,vs,_,p⟩:=(show zA X.prog X.w H s.heap a (.dK kvs)from I.hok a _ ea);obtain⟨o,k,j,f,g,_⟩:=p;exact z59 PySem.W.kitx_dict I.kIn ⟨o,f,g.1⟩ e (λz=>nomatch z) h
 |@dT a kvs ea=>
  cases(show u=Value.ref a from d);obtain⟨_,_,xs,_,o,k,j,f,g,_⟩:=(show zA X.prog X.w H s.heap a (.dT kvs)from I.hok a _ ea);exact z59 PySem.W.kitx_dict I.kIn ⟨o,f,g.1⟩ e (λz=>nomatch z) h
 |@ins a C dx fs ea cl ha hn htk hm=>
  cases(show u=Value.ref a from d);obtain⟨mA,O,_⟩:=tT I.hok ea;obtain⟨od,J,_⟩:=O.look;exact z59 (PySem.W.kitx_own (cl.get _) cl.hd ha hn htk hm) I.kIn J e (λz=>nomatch z) h
end
structure zG (k:Nat)(A:Around):Prop where
 hd:A.handled=none
 dp:A.depth+3*k+5<recursionLimit
 un:A.units+16*k+200<cLine
 gd:A.guards=some []
theorem zG.mono {j k:Nat}{A:Around}(r:zG k A)(h:j<=k):zG j A:=⟨r.hd,by have:=r.dp;lia,by have:=r.un;lia,r.gd⟩
theorem zG.deeper {k:Nat}{A:Around}(r:zG (k+1) A)(env:Env):zG k (A.deeper env):=
 ⟨r.hd,by have:=r.dp;show A.depth+1+3*k+5<_;exact zz0 this,by have:=r.un;show A.units+3+16*k+200<_;lia,r.gd⟩
theorem zG.in1 {k:Nat}{A:Around}(r:zG (k+1) A):zG k A.in1:=
 ⟨r.hd,by have:=r.dp;show A.depth+3*k+5<_;lia,by have:=r.un;show A.units+1+16*k+200<_;exact zt3 this,r.gd⟩
theorem jn {A:Around}{C:Addr}{us:List Value}{kw:List (Str×Value)}:(A.under (.builtin "type.__call__" ⟨.ref C::us,kw⟩)).depth=A.depth+1:=by
 first|rfl|simp[Around.under,Code.weight,Code.isCreation,Code.isGuard,Code.isCaller,Code.frames,Code.isFrame,guardIds]
theorem ky {A:Around}{C:Addr}{us:List Value}{kw:List (Str×Value)}:(A.under (.builtin "type.__call__" ⟨.ref C::us,kw⟩)).units=A.units+1:=by
 first|rfl|simp[Around.under,Code.cUnits,Code.frames,Code.isFrame]
theorem lE {A:Around}{C:Addr}{us:List Value}{kw:List (Str×Value)}:(A.under (.builtin "type.__call__" ⟨.ref C::us,kw⟩)).guards=A.guards:=by
 first|rfl|simp[Around.under,Code.guards,Code.isGuard,guardIds,pushGuards]
theorem zG.make {k:Nat}{A:Around}(r:zG (k+1) A)(C:Addr)(us:List Value)(kw:List (Str×Value)):zG k (A.under (.builtin "type.__call__" ⟨.ref C::us,kw⟩)):=
 ⟨r.hd,by have:=r.dp;rw[jn];exact zz0 this,by have:=r.un;rw[ky];exact zt3 this,(lE (A:=A)).trans r.gd⟩
theorem zG.depth {k:Nat}{A:Around}(r:zG k A):A.depth<recursionLimit:=by have:=r.dp;exact z02 (zZ3 _ _) (z02 (zZ3 _ _) this)
theorem zG.units {k:Nat}{A:Around}(r:zG k A):A.units+64<cLine:=by have:=r.un;lia
def zP7 :TA:=λ_ H Q=>Q [] H
def zN2 (b:TE)(tr:TA):TA:=λσ H Q=>b σ H λx H1=>tr σ H1 λxs a=>Q (x::xs) a
section
variable {X:Cx}{e:Expr}{es:List Expr}{te:TE}{t:TA}{pos:Pos}
theorem zF :PA X [] zP7:=λ_ _ _ _ H Q I h=>Calls.spliced_nil ⟨[],H,I,.nil,h⟩
theorem zp (ha:PE X e te)(hr:PA X es t)(l:starEach (e::es) X.env=(false,eval e X.env)::starEach es X.env:=by rfl):PA X (e::es) (zN2 te t):=by
 intro pos pins s σ H Q I h;rw[l];show wpAny _ _ (spliced ((false,eval e X.env)::backTo pos (starEach es X.env))) _ _ s;refine Calls.spliced_cons (thn (ha pins s σ H _ I h) λu s1 a=>?_);obtain⟨x,H1,j,f,d⟩:=a;exact thn (hr pos pins s1 σ H1 _ j d) λus s2 b=>by obtain⟨xs,i,k,g,c⟩:=b;exact⟨x::xs,i,k,.cons f g,c⟩
def zW7 (t:TA):TE:=λσ H Q=>t σ H λxs H1=>xs.length<=sizeLine/\∀p,H1 p=none->Q (.ref p) (upd H1 p (.tup xs))
def zW3 (t:TA):TE:=λσ H Q=>t σ H λxs H1=>xs.length<=sizeLine/\∀p,H1 p=none->Q (.ref p) (upd H1 p (.lst xs))
theorem kP {x1}(h:PA X es t):PE X (.Tuple es x1 pos) (zW7 t):=by
 intro pins s σ H Q I hq;refine wpAny_Tuple_spliced (thn (h pos pins s σ H _ I hq) λus s1 ⟨xs,H1,a,r,z,q⟩=>⟨by rw[<-r.length];exact z,?_⟩);have hf:H1 s1.heap.objs.size=none:=a.hok.fresh (zY1 _);refine⟨.ref s1.heap.objs.size,upd H1 s1.heap.objs.size (.tup xs),a.laid (t':=s1.toks) (λb u e=>zX6 _ e) (zY1 _) ?_,rfl,q _ hf⟩;exact⟨z,us,r,⟨_,zY7 _ rfl,rfl,_,rfl⟩⟩
theorem bQ (h:PA X es t):PE X (.List es pos) (zW3 t):=by
 intro pins s σ H Q I hq;refine wpAny_List_spliced (thn (h pos pins s σ H _ I hq) λus s1 ⟨xs,H1,a,r,z,q⟩=>⟨by rw[<-r.length];exact z,?_⟩);have hf:H1 s1.heap.objs.size=none:=a.hok.fresh (zY1 _);refine⟨.ref s1.heap.objs.size,upd H1 s1.heap.objs.size (.lst xs),a.laid (t':=s1.toks) (λb u e=>zX6 _ e) (zY1 _) ?_,rfl,q _ hf⟩;exact⟨z,us,0,r,zY7 _ rfl⟩
end
abbrev Sp :=List V->Hp->VK->XK->Prop
abbrev CXT :=List Env->Hp->Shared->XK->Value->Shared->Prop
structure uV (P:Program)(w:World)(K:PySem.W.Frag)(mg:Str->Option Value)(base:Heap)(A:Around)(outer:List Env)(s:Shared)(H:Hp):Prop where
 frames:A.frames=some outer
 mod:Mod K mg base
 bs:∀b o,base.get? b=some o->s.heap.get? b=some o/\H b=none
 bsz:base.objs.size<=s.heap.objs.size
 funs:s.heap.FunFrames base outer
 frf:∀b∈frs outer,H b=none
 hok:HOk P w H s.heap
 bare:AllBare s.gens
def CE (outer:List Env)(P:Program)(w:World)(H:Hp)(s:Shared)(Q:VK)(u:Value)(s':Shared):Prop:=
 ∃v H',s'.os=s.os/\AllBare s'.gens/\Un (frs outer) [] H H' s.heap s'.heap/\HOk P w H' s'.heap/\RelV v u/\Q v H'
def CR (CX:CXT)(outer:List Env)(P:Program)(w:World)(H:Hp)(s:Shared)(Q:VK)(E:XK)(r:Result)(s':Shared):Prop:=
 match r with
 |.ok (.ret u)=>CE outer P w H s Q u s'
 |.ok _=>False
 |.error e=>CX outer H s E e s'
structure yn (P:Program)(w:World)(K:PySem.W.Frag)(mg:Str->Option Value)(base:Heap)(CX:CXT)(k:Nat)(f:Addr)(fd:FuncData)(ps:List Str)(sp:Sp):Prop where
 len:∀vs H Q E,sp vs H Q E->vs.length=ps.length
 run:∀(A:Around) (outer:List Env) (s:Shared) (H:Hp) (args:Args) (us:List Value) (vs:List V) (Q:VK) (E:XK),zG k A->uV P w K mg base A outer s H->BindsTo s fd args (ps.zip us)->Vals vs us->sp vs H Q E->
  codeAny (model P w) A (.call (.ref f) args) (CR CX outer P w H s Q E) s
theorem yn.imp {P:Program}{w:World}{K:PySem.W.Frag}{mg:Str->Option Value}{base:Heap}{CX:CXT}{k:Nat}{f:Addr}{fd:FuncData}{ps:List Str}{sp a:Sp}(F:yn P w K mg base CX k f fd ps sp)
  (h:∀vs H Q E,a vs H Q E->sp vs H Q E):yn P w K mg base CX k f fd ps a:=
 ⟨λvs H Q E q=>F.len vs H Q E (h _ _ _ _ q),λA outer s H args us vs Q E hr he hb b c=>F.run A outer s H args us vs Q E hr he hb b (h _ _ _ _ c)⟩
theorem uV.make {P:Program}{w:World}{K:PySem.W.Frag}{mg:Str->Option Value}{base:Heap}{A:Around}{outer:List Env}{s:Shared}{H:Hp}(e:uV P w K mg base A outer s H)(C:Addr)(us:List Value)(kw:List (Str×Value)):
  uV P w K mg base (A.under (.builtin "type.__call__" ⟨.ref C::us,kw⟩)) outer s H:=⟨by first|exact e.frames|(simpa[Around.under,Code.envs,Code.isFrame,pushEnvs]using e.frames),e.mod,e.bs,e.bsz,e.funs,e.frf,e.hok,e.bare⟩
theorem uV.in1 {P:Program}{w:World}{K:PySem.W.Frag}{mg:Str->Option Value}{base:Heap}{A:Around}{outer:List Env}{s:Shared}{H:Hp}(e:uV P w K mg base A outer s H):
  uV P w K mg base A.in1 outer s H:=⟨e.frames,e.mod,e.bs,e.bsz,e.funs,e.frf,e.hok,e.bare⟩
section
variable {X:Cx}{pins:List (Addr×Obj)}{σ:St}{H:Hp}{s s':Shared}
theorem Inv.env0 (I:Inv X pins σ H s):uV X.prog X.w X.K X.mg X.base X.A X.stack s H:=
 ⟨I.ok.frames,I.ok.mod,I.bs,zY8 I.ok.bsz I.sz,I.stack,I.stkFree,I.hok,I.bare⟩
theorem Inv.after {Q:VK}{u:Value}(I:Inv X pins σ H s)(h:CE X.stack X.prog X.w H s Q u s'):EP X pins σ Q u s':=by
 obtain⟨v,H',os,bare,un,hok,r,q⟩:=h;obtain⟨c,g,d,t,a⟩:=s';obtain rfl:a=s.os:=os;exact⟨v,H',I.call (h':=c) (g':=g) (d':=d) (t':=t) (ch:=[]) un hok bare (λb z=>absurd z (by simp)),r,q⟩
end
def zS3 (sp:Sp)(dvs:List V)(E:XK)(t:TA):TE:=λσ H Q=>t σ H λvs H1=>sp (vs++dvs) H1 Q E
def zu7 (C:Addr)(m:Str)(sp:Sp)(dvs:List V)(E:XK)(c:TE)(t:TA):TE:=λσ H Q=>c σ H λx H1=>∃a dx fs,x=.ref a/\H1 a=some (.ins C dx fs)/\fs.lookup m=none/\
 t σ H1 λvs b=>sp (x::(vs++dvs)) b Q E
def zL2 (C:Addr)(sp:Sp)(dvs:List V)(E:XK)(t:TA):TE:=λσ H Q=>t σ H λvs H1=>∀x dx,H1 x=none->H1 dx=none->dx≠x->
 sp (.ref x::(vs++dvs)) (upd (upd H1 dx (.own x)) x (.ins C dx [])) (λv a=>v=.non/\Q (.ref x) a) E
def Binds (K:PySem.W.Frag)(fd:FuncData)(ps:List Str)(ds:List Value):Prop:=
 ∀(s:Shared) (us:List Value),K.In s.heap->(us++ds).length=ps.length->BindsTo s fd ⟨us,[]⟩ (ps.zip (us++ds))
theorem Binds.all {K:PySem.W.Frag}{fd:FuncData}{ps:List Str}(h:∀us:List Value,us.length=ps.length->bindArgs fd ⟨us,[]⟩=pure (ps.zip us)):Binds K fd ps []:=λs us _ a=>by
 rw[z51]at a ⊢;exact .of_eq (h us a)
def Passes (CX:CXT)(X:Cx)(E:XK):Prop:=∀(pins:List (Addr×Obj)) (σ:St) (H:Hp) (s:Shared) (e:Value) (s':Shared),Inv X pins σ H s->CX X.stack H s E e s'->X.xe e s'
section
variable {X:Cx}{CX:CXT}{k:Nat}{f C:Addr}{fd:FuncData}{ps:List Str}{sp:Sp}{dvs:List V}{ds:List Value}{E:XK}{x m:Str}{p pos apos:Pos}{e o:Expr}{es:List Expr}{ta:TE}{t:TA}
theorem jD {pins:List (Addr×Obj)}{σ:St}{H:Hp}{s:Shared}{Q:VK}{us:List Value}{vs:List V}(F:yn X.prog X.w X.K X.mg X.base CX k f fd ps sp)(hr:zG k X.A)(hb:Binds X.K fd ps ds)(hd:Vals dvs ds)(b:Passes CX X E)
  (I:Inv X pins σ H s) (r:Vals vs us) (h:sp (vs++dvs) H Q E):wpAny (model X.prog X.w) X.A (call (.ref f) us) (EP X pins σ Q) X.xe s:=by
 have a:Vals (vs++dvs) (us++ds):=r.append hd;have c:(us++ds).length=ps.length:=by rw[<-a.length];exact F.len _ _ _ _ h
 refine yc7 (yb9 (F.run X.A X.stack s H ⟨us,[]⟩ (us++ds) (vs++dvs) Q E hr I.env0 (hb s us I.kIn c) a h) λr s' hq=>?_);cases r with
 |error e=>exact b pins σ H s e s' I hq
 |ok fl=>
  cases fl with
  |ret u=>exact I.after hq
  |next=>exact False.elim hq
  |brk=>exact False.elim hq
  |cont=>exact False.elim hq
theorem pK (F:yn X.prog X.w X.K X.mg X.base CX k f fd ps sp)(hr:zG k X.A)(hg:Gl X x)(hm:X.mg x=some (.ref f))(hk:PySem.W.keepIn X.K (.ref f)=true)(hb:Binds X.K fd ps ds)(hd:Vals dvs ds)(d:Passes CX X E)
  (ha:PA X (e::es) t) (b:(x == ("__debug__":Str))=false:=by decide) (he:starEach (e::es) X.env=(false,eval e X.env)::starEach es X.env:=by rfl) (hpl:(backTo pos (starEach es X.env)).any (·.1)=false:=by rfl):
  PE X (.Call (.Name x p) (e::es) [] pos) (zS3 sp dvs E t):=by
 intro pins s σ H Q I h;refine z72 (xK I hg hm ?_ b);refine z96 (h₀:=X.base) I.ok.mod.kin hk (thn (ha pos pins s σ H _ I h) λus s1 a=>?_) he hpl;obtain⟨vs,H1,c,r,q⟩:=a;refine⟨c.kIn,?_⟩;exact jD F hr hb hd d c r q
theorem zi5 {pl:Sem Bool}(he:PE X o ta)(c:Cls X.K C)(hm:Meth X.K C m f)(F:yn X.prog X.w X.K X.mg X.base CX k f fd ps sp)(hr:zG k X.A)(hb:Binds X.K fd ps ds)(hd:Vals dvs ds)(z:Passes CX X E)(ha:PA X (e::es) t)
  (g:starEach (e::es) X.env=(false,eval e X.env)::starEach es X.env:=by rfl) (hpl:(backTo pos (starEach es X.env)).any (·.1)=false:=by rfl)
  (v:eval (.Call (.Attribute o m apos) (e::es) [] pos) X.env=(do
   let ov <-eval o X.env
   standAt apos.atName
   let(f,first) <-holding [ov] (getMethod ov m pl)
   callWith pos f first (backTo pos (starEach (e::es) X.env)) (backToKw pos (keywordEach [] X.env))):=by rfl):
  PE X (.Call (.Attribute o m apos) (e::es) [] pos) (zu7 C m sp dvs E ta t):=by
 intro pins s σ H Q I h;refine yg7 (pl:=pl) (thn (he pins s σ H _ I h) λu s1 d=>?_) v;obtain⟨x,H1,i,B,a,dx,fs,ex,y,l,q⟩:=d;subst ex;obtain rfl:u=Value.ref a:=B;refine vX i y c hm l ?_;refine z96 (first:=[.ref a]) (h₀:=X.base) I.ok.mod.kin hm.kp (thn (ha pos pins s1 σ H1 _ i q) λus s2 b=>?_) g hpl;obtain⟨vs,D,j,r,n⟩:=b;refine⟨j.kIn,?_⟩;exact jD (us:=.ref a::us) (vs:=.ref a::vs) F hr hb hd z j (.cons rfl r) n
theorem za0 {pl:Sem Bool}(he:PE X o ta)(c:Cls X.K C)(hm:Meth X.K C m f)(F:yn X.prog X.w X.K X.mg X.base CX k f fd ps sp)(hr:zG k X.A)(hb:Binds X.K fd ps ds)(hd:Vals dvs ds)(i:Passes CX X E)
  (j:eval (.Call (.Attribute o m apos) [] [] pos) X.env=(do
   let ov <-eval o X.env
   standAt apos.atName
   let(f,first) <-holding [ov] (getMethod ov m pl)
   callWith pos f first (backTo pos (starEach [] X.env)) (backToKw pos (keywordEach [] X.env))):=by rfl):
  PE X (.Call (.Attribute o m apos) [] [] pos) (zu7 C m sp dvs E ta zP7):=by
 intro pins s σ H Q I h;refine yg7 (pl:=pl) (thn (he pins s σ H _ I h) λu s1 b=>?_) j;obtain⟨x,H1,d,g,a,dx,fs,ex,n,l,q⟩:=b;subst ex;obtain rfl:u=Value.ref a:=g;refine vX d n c hm l ?_;exact PySem.W.callWith_K0 (first:=[.ref a]) d.kIn hm.kp (jD (us:=[.ref a]) (vs:=[.ref a]) F hr hb hd i d (.cons rfl .nil) q)
structure Mk (K:PySem.W.Frag)(C f:Addr):Prop where
 makes:PySem.W.makesIn K C=true
 init:PySem.W.findIn K (.ref C) "__init__"=some (some (.ref f))
 fn:PySem.W.isFn K (.ref f)=true
 kp:PySem.W.keepIn K (.ref C)=true
theorem aK {pins:List (Addr×Obj)}{σ:St}{H:Hp}{s:Shared}{Q:VK}{us:List Value}{vs:List V}(M:Mk X.K C f)(F:yn X.prog X.w X.K X.mg X.base CX k f fd ps sp)(hr:zG (k+1) X.A)(hb:Binds X.K fd ps ds)(hd:Vals dvs ds)
  (j:Passes CX X E) (I:Inv X pins σ H s) (r:Vals vs us)
  (h:∀x dx,H x=none->H dx=none->dx≠x->sp (.ref x::(vs++dvs)) (upd (upd H dx (.own x)) x (.ins C dx [])) (λv g=>v=.non/\Q (.ref x) g) E):
  wpAny (model X.prog X.w) X.A (call (.ref C) us) (EP X pins σ Q) X.xe s:=by
 have hq:=h (s.heap.objs.size+1) s.heap.objs.size (I.hok.fresh (z64 _)) (I.hok.fresh (zY1 _)) (zZ7 (z52 _));have b:=Inv.made (C:=C) I;have c:Vals (V.ref (s.heap.objs.size+1)::(vs++dvs)) (Value.ref (s.heap.objs.size+1)::(us++ds)):=.cons rfl (r.append hd);have i:(Value.ref (s.heap.objs.size+1)::us++ds).length=ps.length:=by
  have e:=c.length;rw[F.len _ _ _ _ hq]at e;exact e.symm
 refine yc7 (zb5 (f:=f) I.kIn M.makes M.init (yc6.mp M.fn) (yb9 (F.run _ X.stack _ _ ⟨Value.ref (s.heap.objs.size+1)::us,[]⟩ (Value.ref (s.heap.objs.size+1)::(us++ds)) _ _ E (hr.make C us [])
  (b.env0.make C us []) (hb _ (Value.ref (s.heap.objs.size+1)::us) b.kIn i) c hq) λr s' a=>?_))
 cases r with
 |error e=>exact j pins σ _ _ e s' b a
 |ok fl=>
  cases fl with
  |ret u=>
   obtain⟨v,H',l,d,ev,n⟩:=b.after a;subst ev;exact⟨d,⟨V.ref (s.heap.objs.size+1),H',l,rfl,n⟩⟩
  |next=>exact False.elim a
  |brk=>exact False.elim a
  |cont=>exact False.elim a
theorem zm1 (M:Mk X.K C f)(F:yn X.prog X.w X.K X.mg X.base CX k f fd ps sp)(hr:zG (k+1) X.A)(hg:Gl X x)(hm:X.mg x=some (.ref C))(hb:Binds X.K fd ps ds)(hd:Vals dvs ds)(d:Passes CX X E)
  (ha:PA X (e::es) t) (b:(x == ("__debug__":Str))=false:=by decide) (he:starEach (e::es) X.env=(false,eval e X.env)::starEach es X.env:=by rfl) (hpl:(backTo pos (starEach es X.env)).any (·.1)=false:=by rfl):
  PE X (.Call (.Name x p) (e::es) [] pos) (zL2 C sp dvs E t):=by
 intro pins s σ H Q I h;refine z72 (xK I hg hm ?_ b);refine z96 (h₀:=X.base) I.ok.mod.kin M.kp (thn (ha pos pins s σ H _ I h) λus s1 a=>?_) he hpl;obtain⟨vs,H1,c,r,q⟩:=a;refine⟨c.kIn,?_⟩;exact aK M F hr hb hd d c r q
end
section
variable {X:Cx}{CX:CXT}{k:Nat}{f C:Addr}{fd:FuncData}{ps ks:List Str}{sp:Sp}{E:XK}{x m:Str}{p pos apos kpos:Pos}{e o:Expr}{es:List Expr}{kws:List Keyword}{te ta:TE}{t tk:TA}{nm:Option Str}
variable {g:List Value->List Value->List Value}{gV:List V->List V->List V}
end
structure zI (N P:List Str)(sc:Scope):Prop where
 kind:sc.kind=.function
 co:sc.isCoroutine=false
 gen:sc.isGenerator=false
 nd:N.Nodup
 pre:N.take P.length=P
 par:∀x∈P,sc.names.lookup x=some .local\/sc.names.lookup x=some .cell
 nofree:∀y∈sc.names,y.2≠.free
theorem ph {kindOf:Str->Option NameKind}{x:Str}:∀{binds:List (Str×Value)}{m:Str->Option Value},(∀v,(x,v)∉binds)->bindL kindOf binds m x=m x
 |[],_,_=>rfl
 |(n,v)::r,m,h=>by
  unfold bindL;rw[ph λw hw=>h w (zY6 _ hw)];split
  ·have:x≠n:=by rintro rfl;exact h v zY9
   simp[this]
  ·rfl
theorem qZ {kindOf:Str->Option NameKind}{x:Str}:∀{binds:List (Str×Value)}{m:Str->Option Value},(∀v,(x,v)∉binds)->bindC kindOf binds m x=m x
 |[],_,_=>rfl
 |(n,v)::r,m,h=>by
  unfold bindC;rw[qZ λw hw=>h w (zY6 _ hw)];split
  ·rfl
  ·have:x≠n:=by rintro rfl;exact h v zY9
   simp[this]
theorem qD {kindOf:Str->Option NameKind}{x:Str}{v:Value}:∀{P:List Str}{vs:List Value}{i:Nat}{m:Str->Option Value},P.Nodup->P[i]?=some x->vs[i]?=some v->kindOf x=some .local->
  bindL kindOf (P.zip vs) m x=some v
 |[],_,_,_,_,h,_,_=>by simp at h
 |_::_,[],_,_,_,_,h,_=>by simp at h
 |p::P,w::vs,0,m,nd,b,a,hk=>by
  simp at b a;subst b;subst a;show bindL kindOf ((p,w)::P.zip vs) m p=_;unfold bindL;rw[ph λv c=>(yh2.mp nd).1 (List.of_mem_zip c).1,if_pos hk];simp
 |p::P,w::vs,i+1,m,nd,b,a,hk=>by
  show bindL kindOf ((p,w)::P.zip vs) m x=_;unfold bindL;exact qD (i:=i) (yh2.mp nd).2 (by simpa using b) (by simpa using a) hk
theorem qC {kindOf:Str->Option NameKind}{x:Str}{v:Value}:∀{P:List Str}{vs:List Value}{i:Nat}{m:Str->Option Value},P.Nodup->P[i]?=some x->vs[i]?=some v->kindOf x≠some .local->
  bindC kindOf (P.zip vs) m x=some v
 |[],_,_,_,_,h,_,_=>by simp at h
 |_::_,[],_,_,_,_,h,_=>by simp at h
 |p::P,w::vs,0,m,nd,b,a,hk=>by
  simp at b a;subst b;subst a;show bindC kindOf ((p,w)::P.zip vs) m p=_;unfold bindC;rw[qZ λv c=>(yh2.mp nd).1 (List.of_mem_zip c).1,if_neg hk];simp
 |p::P,w::vs,i+1,m,nd,b,a,hk=>by
  show bindC kindOf ((p,w)::P.zip vs) m x=_;unfold bindC;exact qC (i:=i) (yh2.mp nd).2 (by simpa using b) (by simpa using a) hk
def start (N:List Str)(vs:List V):St:=vs.map some++List.replicate (N.length-vs.length) none
def xp (CX:CXT)(P:Program)(w:World)(K:PySem.W.Frag)(mg:Str->Option Value)(base:Heap)(N:List Str)(qual:Str)(scope:Scope)(f:Addr)(cd:Value)(A:Around)(outer:List Env)(s:Shared)(H:Hp)(E:XK):Cx where
 prog:=P
 w:=w
 K:=K
 mg:=mg
 base:=base
 A:=A.deeper (envOfC qual scope s.heap.objs.size f cd)
 N:=N
 s₀:=s
 H₀:=H
 env:=envOfC qual scope s.heap.objs.size f cd
 outer:=outer
 stack:=envOfC qual scope s.heap.objs.size f cd::outer
 ex:=[]
 calm:=true
 fn:=λ_=>true
 pn:=[]
 xe:=λe s'=>wpAny (model P w) (A.deeper (envOfC qual scope s.heap.objs.size f cd)) (leaving (envOfC qual scope s.heap.objs.size f cd) e) (λ_ a=>CX outer H s E e a) (λb a=>CX outer H s E b a) s'
theorem ml {sc:Scope}{n:Nat}{x:Str}(h:sc.names.lookup x=some .cell):∃c,(cellsFrom n sc.names []).lookup x=some c:=by
 have q:=PySem.W.cellsFrom_some sc.names n [] (.inl h);exact ye3.mp q
theorem fN {CX:CXT}{P:Program}{w:World}{K:PySem.W.Frag}{mg:Str->Option Value}{base:Heap}{N ps:List Str}{qual:Str}{scope:Scope}{f:Addr}{cd:Value}{A:Around}{outer:List Env}{s s1:Shared}{H:Hp}{E:XK}{us:List Value}{vs:List V}
  (S:zI N ps scope) (hd:A.handled=none) (g:uV P w K mg base A outer s H) (t:vs.length=ps.length) (r:Vals vs us)
  (x:InCallC s s.heap.objs.size (bindL (envOfC qual scope s.heap.objs.size f cd).kindOf (ps.zip us) λ_=>none) (cellsFrom (s.heap.objs.size+1) scope.names []) (bindC (envOfC qual scope s.heap.objs.size f cd).kindOf (ps.zip us) λ_=>none) s1):
  Inv (xp CX P w K mg base N qual scope f cd A outer s H E) [] (start N vs) H s1:=by
 have hpl:ps.length<=N.length:=by have:=congrArg List.length S.pre;rw[z46]at this;exact zY8 (zZ5 this.symm) (yg4 _ _)
 obtain⟨o,tk,rfl,hk⟩:=x.done;have j:∀b:Addr,b∉(xp CX P w K mg base N qual scope f cd A outer s H E).ex:=λb z=>absurd (show b∈([]:List Addr)from z) (by simp);refine⟨⟨g.mod,S.kind,rfl,rfl,zY1 _,λy z c o d=>?_,λy hy=>?_,λy c _ h=>?_,λ_=>hd,Around.frames_deeper g.frames,.inr ⟨rfl,rfl⟩,λb z=>absurd z (j b),g.bs,g.bsz,λb _ _=>j b,λb z=>absurd z (j b),g.funs,g.frf⟩,
  rfl,g.bare,Un.kept hk,⟨_,x.toInCall.ns,λi y v o d D=>?_⟩,λy c h=>⟨_,x.cell y c h⟩,g.hok.fresh (zY1 _),λy c h=>?_,λp l=>absurd (show p∈([]:List (Addr×Obj))from l) (by simp),g.hok.kept hk,?_⟩
 ·exact name_of_addr x.apart (z47 o) (z47 d)
 ·have hy:scope.names.lookup y=some .cell\/scope.names.lookup y=some .free:=hy;rcases hy with hy|hy
  ·exact ml hy
  ·exact absurd rfl (S.nofree _ (z47 hy))
 ·exact z36 (x.above y c (z47 h))
 ·have hi:i<vs.length:=by
   unfold start at d;by_cases hi:i<vs.length
   ·exact hi
   ·rw[z38 (by simpa using hi)]at d;rw[z91]at d;split at d<;>cases d
  have ha:vs[i]?=some v:=by
   unfold start at d;rw[z22 (by simpa using hi),zZ1]at d;cases e:vs[i]? with
   |none=>rw[e]at d;cases d
   |some a=>rw[e]at d;cases d;rfl
  obtain⟨u,B,C⟩:=r.get ha;have l:ps[i]?=some y:=by rw[<-S.pre,List.getElem?_take_of_lt (zX8 hi (zZ5 t))];exact o
  have m:ps.Nodup:=by rw[<-S.pre];exact S.nd.sublist (List.take_sublist _ _)
  refine⟨u,C,?_⟩;rcases S.par y (z23 l)with k|k
  ·exact .inl ⟨k,qD m l B k⟩
  ·obtain⟨c,e⟩:=ml (n:=s.heap.objs.size+1) k;refine .inr ⟨.inl k,c,e,?_⟩;have q:=x.cell y c e;rw[qC m l B (by show scope.names.lookup y≠_;rw[k];decide)]at q;exact q
 ·exact g.hok.fresh (z36 (x.above y c (z47 h)))
 ·unfold start;show _=N.length;rw[zZ9,zX7,yg8];exact zS0 t hpl
theorem jW {CX:CXT}{P:Program}{w:World}{K:PySem.W.Frag}{mg:Str->Option Value}{base:Heap}{k:Nat}{f:Addr}{name qual:Str}{params:Arguments}{body:List Stmt}{scope:Scope}{dV kV doc pm cdv ct oc:Value}{an od:Option Addr}
  {osl:Array (Option Value)} {N ps:List Str} {sp:Sp} (C:K.lookup f=some ⟨oc,od,.func (PySem.W.fnOf name qual params body scope dV kV doc pm an cdv ct),osl⟩) (m:PySem.W.codeIn K cdv qual=true) (S:zI N ps scope)
  (len:∀vs H Q E,sp vs H Q E->vs.length=ps.length)
  (d:∀(A:Around) (outer:List Env) (s:Shared) (H:Hp) (vs:List V) (Q:VK) (E:XK),zG k (A.deeper (envOfC qual scope s.heap.objs.size f cdv))->sp vs H Q E->
   ∃t,PSs (xp CX P w K mg base N qual scope f cdv A outer s H E) body t/\t {nx:=λ_ H'=>Q .non H',rt:=Q} (start N vs) H):
  yn P w K mg base CX (k+1) f (PySem.W.fnOf name qual params body scope dV kV doc pm an cdv ct) ps sp:=by
 refine⟨len,λA outer s H args us vs Q E hr i hb r j=>?_⟩;have B:=len _ _ _ _ j;have p:K.In s.heap:=i.mod.kin.keeps λb o e=>(i.bs b o e).1;have lim:s.heap.NoLimit:=i.mod.nolimit.keeps λb o e=>(i.bs b o e).1;have c:∀y∈ps.zip us,scope.names.lookup y.1=some .local\/(scope.names.lookup y.1=some .cell/\((cellsFrom (s.heap.objs.size+1) scope.names []).lookup y.1).isSome=true):=λh hy=>by
  obtain⟨n,v⟩:=h;rcases S.par n (List.of_mem_zip hy).1 with q|q
  ·exact .inl q
  ·exact .inr ⟨q,PySem.W.cellsFrom_some _ _ _ (.inl q)⟩
 refine codeAny_call_function hr.depth (p _ _ C) rfl S.co S.gen rfl (PySem.W.codeRec_of p m) (hb _ _ _ _ ?_);refine wpAny_newFunctionEnv_cells S.kind c λenv he s1 x=>?_;subst he;refine⟨lim.keeps x.toInCall.keep,codeAny_func ?_⟩;obtain⟨t,z,hq⟩:=d A outer s H vs Q E (hr.deeper _) j;have I:Inv (xp CX P w K mg base N qual scope f cdv A outer s H E) [] (start N vs) H s1:=fN S hr.hd i B r x;refine z26 (z [] s1 (start N vs) H _ I hq) (λfl s' g=>?_) λe s' g=>g;have fin:∀{a:St} {H':Hp} {v:V} {u:Value},Inv (xp CX P w K mg base N qual scope f cdv A outer s H E) [] a H' s'->RelV v u->Q v H'->CE outer P w H s Q u s':=
  λ{a H' v u} J l q=>⟨v,H',J.os,J.bare,J.base,J.hok,l,q⟩
 cases fl with
 |ret u=>
  obtain⟨v,a,H',J,l,q⟩:=g;exact fin J l q
 |next=>
  obtain⟨a,H',J,q⟩:=g;exact fin (v:=V.non) (u:=Value.none) J rfl q
 |brk=>
  obtain⟨_,_,_,q⟩:=g;exact False.elim q
 |cont=>
  obtain⟨_,_,_,q⟩:=g;exact False.elim q
section
variable {X:Cx}{x:Str}{p pos:Pos}{e:Expr}{es:List Expr}{t:TA}{id T:String}{r:List V->Hp->VK->Prop}
def tCB (r:List V->Hp->VK->Prop)(t:TA):TE:=λσ H Q=>t σ H λvs H1=>r vs H1 Q
theorem yL (c:yI X (.builtin id) r)(hg:Gl X x)(hm:X.mg x=none)(g:bootBuiltins x=some (.builtin id))(ha:PA X (e::es) t)(hn:x≠"__name__":=by decide)(b:(x == ("__debug__":Str))=false:=by decide)
  (he:starEach (e::es) X.env=(false,eval e X.env)::starEach es X.env:=by rfl) (hpl:(backTo pos (starEach es X.env)).any (·.1)=false:=by rfl):PE X (.Call (.Name x p) (e::es) [] pos) (tCB r t):=by
 intro pins s σ H Q I h;refine z72 (yT I hg hm g ?_ hn b);exact PyProof.Rows.callWith_builtin1 (thn (ha pos pins s σ H _ I h) λus s1 a=>by obtain⟨vs,H1,i,f,d⟩:=a;exact c pins s1 σ H1 vs us Q i f d) he hpl
theorem xr (c:yI X (.type T) r)(hg:Gl X x)(hm:X.mg x=none)(g:bootBuiltins x=some (.type T))(ha:PA X (e::es) t)(hn:x≠"__name__":=by decide)(b:(x == ("__debug__":Str))=false:=by decide)
  (he:starEach (e::es) X.env=(false,eval e X.env)::starEach es X.env:=by rfl) (hpl:(backTo pos (starEach es X.env)).any (·.1)=false:=by rfl):PE X (.Call (.Name x p) (e::es) [] pos) (tCB r t):=by
 intro pins s σ H Q I h;refine z72 (yT I hg hm g ?_ hn b);exact z30 (thn (ha pos pins s σ H _ I h) λus s1 a=>by obtain⟨vs,H1,i,f,d⟩:=a;exact c pins s1 σ H1 vs us Q i f d) he hpl
end
end L2
namespace HT
open PySem PyProof.Rows
section
open PySem.SeqAt
open PySem.AutoSeq1 (wpAny_loadPart')
open PySem.MeetsSeq PySem.MeetsSeq2 PySem.MeetsSeq3
end
section
variable {prog:Program}{w:World}{A:Around}{E:Value->Shared->Prop}{s:Shared}
def sIx (n d:Nat):Option Int->Nat
 |none=>d
 |some v=>if v<0 then(v+(n:Int)).toNat else min v.toNat n
theorem sq (n d:Nat):sIx n d none=d:=rfl
theorem jK (n d k:Nat):sIx n d (some (k:Int))=min k n:=by
 show(if(k:Int)<0 then((k:Int)+(n:Int)).toNat else min (k:Int).toNat n)=min k n;rw[if_neg (Int.not_lt.2 (yi3 _)),yf7]
end
end HT
namespace L2
open PySem PySem.Spec PyProof.Rows
abbrev TO :=St->Hp->(Option Int->Hp->Prop)->Prop
def PO (X:Cx)(e:Option Expr)(t:TO):Prop:=
 ∀(pins:List (Addr×Obj)) (s:Shared) (σ:St) (H:Hp) (Q:Option Int->Hp->Prop),Inv X pins σ H s->t σ H Q->
  wpAny (model X.prog X.w) X.A (evalPart e X.env) (λu s'=>∃o H',Inv X pins σ H' s'/\IsPart u o/\Q o H') X.xe s
def zp7 :TO:=λ_ H Q=>Q none H
def zN8 (t:TE):TO:=λσ H Q=>t σ H λx H1=>∃i,x=.int i/\Q (some i) H1
section
variable {X:Cx}{e:Expr}{te:TE}{lo hi:Option Expr}{tl th:TO}{pos p2:Pos}
theorem pI :PO X none zp7:=by
 intro pins s σ H Q I h;rw[evalPart_none];exact zY3 ⟨none,H,I,.none,h⟩
theorem ou (h:PE X e te):PO X (some e) (zN8 te):=by
 intro pins s σ H Q I hw;rw[evalPart_some];refine thn (h pins s σ H _ I hw) λu s1 a=>?_;obtain⟨x,H1,d,c,b⟩:=a;obtain⟨i,rfl,q⟩:=b;obtain⟨t,rfl⟩:=c;exact⟨some i,H1,d,.int i t,q⟩
def SlR (X:Cx)(r:V->Option Int->Option Int->Hp->VK->Prop):Prop:=
 ∀(pins:List (Addr×Obj)) (s:Shared) (σ:St) (H:Hp) (x:V) (v a b:Value) (lo hi:Option Int) (sl:Addr) (Q:VK),Inv X pins σ H s->RelV x v->s.heap.IsSliceOf sl a b .none->IsPart a lo->IsPart b hi->r x lo hi H Q->
  ∃T id,typeLookup (.type T) "__getitem__"=pure (some (.builtin id))/\s.TypeIs v T/\wpAny (model X.prog X.w) X.A (getItem v (.ref sl)) (EP X pins σ Q) X.xe s
def tSl (r:V->Option Int->Option Int->Hp->VK->Prop)(te:TE)(tl th:TO):TE:=λσ H Q=>te σ H λx H1=>tl σ H1 λl a=>th σ a λu H3=>r x l u H3 Q
theorem rP {r:V->Option Int->Option Int->Hp->VK->Prop}(hr:SlR X r)(he:PE X e te)(m:PO X lo tl)(o:PO X hi th):PE X (.Subscript e (.Slice lo hi none p2) pos) (tSl r te tl th):=by
 intro pins s σ H Q I h;refine Subscript_ (thn (he pins s σ H _ I h) λv s1 ⟨x,H1,j,f,n⟩=>?_);refine wpAny_Slice (thn (m pins s1 σ H1 _ j n) λa s2 ⟨l,i,k,pl,d⟩=>thn (o pins s2 σ i _ k d) λc s3 ⟨u,H3,p,pu,y⟩=>?_);rw[evalPart_none];refine zY3 ?_;have t:Inv X pins σ H3 {s3 with heap:=s3.heap.push {cls:=.type "slice",data:=.fields #[a,c,.none]}}:=p.kept (t':=s3.toks) λb ob q=>zX6 _ q;obtain⟨T,id,hT,g,hg⟩:=hr pins {s3 with heap:=s3.heap.push {cls:=.type "slice",data:=.fields #[a,c,.none]}} σ H3 x v a c l u s3.heap.objs.size Q t f (Heap.IsSliceOf.new ..) pl pu y;show wpAny (model X.prog X.w) X.A (subscriptTail e (.Slice lo hi none p2) v (.ref s3.heap.objs.size)) (EP X pins σ Q) X.xe {s3 with heap:=s3.heap.push {cls:=.type "slice",data:=.fields #[a,c,.none]}};exact tail_any (ops:=[.ref s3.heap.objs.size,v]) g hT hg (by with_unfolding_all rfl)
def nY (xs:List V)(lo hi:Option Int):List V:=(xs.drop (HT.sIx xs.length 0 lo)).take (HT.sIx xs.length xs.length hi-HT.sIx xs.length 0 lo)
theorem nu (xs:List V)(lo hi:Option Int):(nY xs lo hi).length<=xs.length:=by
 unfold nY;rw[z46,yg5];exact zY8 (yg4 _ _) (Nat.sub_le _ _)
end
def ixN (n:Nat)(i:Int):Option Nat:=if 0<=i then(if i<n then some i.toNat else none)else if -(n:Int)<=i then some (i+n).toNat else none
def atI {α:Type}(xs:List α)(i:Int):Option α:=(ixN xs.length i).bind λj=>xs[j]?
theorem oQ {n:Nat}{i:Int}{j:Nat}(h:ixN n i=some j):seqIndex? i n=some j/\j<n/\-(n:Int)<=i/\i<n:=by
 unfold ixN at h;by_cases h0:0<=i
 ·rw[if_pos h0]at h;by_cases a:i<n
  ·rw[if_pos a]at h;have e:i.toNat=j:=z07 h;exact⟨by rw[seqIndex_of h0 a,e],by lia,by lia,a⟩
  ·rw[if_neg a]at h;cases h
 ·rw[if_neg h0]at h;by_cases a:-(n:Int)<=i
  ·rw[if_pos a]at h;have e:(i+n).toNat=j:=z07 h;exact⟨by rw[seqIndex_neg (yh4.1 h0) a,e],by lia,a,(Int.lt_of_lt_of_le (yh4.1 h0) (yi3 _))⟩
  ·rw[if_neg a]at h;cases h
theorem pM {α:Type}{xs:List α}{i:Int}{v:α}(h:atI xs i=some v):∃j,seqIndex? i xs.length=some j/\xs[j]?=some v/\j<xs.length/\-(xs.length:Int)<=i/\i<xs.length:=by
 unfold atI at h;cases e:ixN xs.length i with
 |none=>rw[e]at h;cases h
 |some j=>
  rw[e]at h;obtain⟨c,a,d,b⟩:=oQ e;exact⟨j,c,h,a,d,b⟩
theorem vv {α:Type}{xs:List α}{j:Nat}{v:α}(h:xs[j]?=some v):atI xs (j:Int)=some v:=by
 have a:j<xs.length:=(zX9.mp h).1;have e:ixN xs.length (j:Int)=some j:=by
  unfold ixN;rw[if_pos (yi3 _),if_pos (Int.ofNat_lt.2 a)];simp
 unfold atI;rw[e];exact h
def oG (b:Expr):Prop:=∀o i,subscripted b false o i=operate [o,i] (getItem o i)
def IxR (X:Cx)(r:R2):Prop:=
 ∀(value slice:Expr) (pins:List (Addr×Obj)) (s:Shared) (σ:St) (H:Hp) (x y:V) (v u:Value) (Q:VK),Inv X pins σ H s->RelV x v->RelV y u->r x y H Q->
  subscripted slice false v u=operate [v,u] (getItem v u)->wpAny (model X.prog X.w) X.A (subscriptTail value slice v u) (EP X pins σ Q) X.xe s
def MtR (X:Cx)(id:String)(r:V->List V->Hp->VK->Prop):Prop:=
 ∀(pins:List (Addr×Obj)) (s:Shared) (σ:St) (H:Hp) (x:V) (xs:List V) (v:Value) (us:List Value) (Q:VK),Inv X pins σ H s->RelV x v->Vals xs us->r x xs H Q->
  wpAny (model X.prog X.w) X.A (call (.builtin id) (v::us)) (EP X pins σ Q) X.xe s
section
variable {X:Cx}{a b:Expr}{ta tb:TE}{pos:Pos}
theorem IxR.or {r e:R2}(h:IxR X r)(h':IxR X e):IxR X (λx y H Q=>r x y H Q\/e x y H Q):=by
 intro value slice pins s σ H x y v u Q I d c q f;rcases q with q|q
 ·exact h value slice pins s σ H x y v u Q I d c q f
 ·exact h' value slice pins s σ H x y v u Q I d c q f
theorem yy {r:R2}(hr:IxR X r)(ha:PE X a ta)(hb:PE X b tb)(g:oG b):PE X (.Subscript a b pos) (tOp r ta tb):=by
 intro pins s σ H Q I h;exact Subscript_ (zE7 ha hb I h λv u s2 x y e f d c q=>hr a b pins s2 σ e x y v u Q f d c q (g _ _))
def zM5 (K:PySem.W.Frag):R2:=λx y H Q=>∃p xs i v,x=.ref p/\y=.int i/\SqL K H p xs/\atI xs i=some v/\Q v H
def zG0 (K:PySem.W.Frag):R2:=λx y H Q=>∃p xs i v,x=.ref p/\y=.int i/\SqT K H p xs/\atI xs i=some v/\Q v H
def zP4 :R2:=λx y H Q=>∃z i c,x=.str z/\y=.int i/\z.length<=sizeLine/\atI z.cps.toList i=some c/\Q (.str ⟨#[c]⟩) H
theorem zL :IxR X (zM5 X.K):=by
 intro value slice pins s σ H x y v u Q I A m h l;obtain⟨p,xs,i,z,rfl,rfl,hq,he,q⟩:=h;cases A;obtain⟨t,rfl⟩:=m;obtain⟨its,r,pl,hz⟩:=I.list hq;obtain⟨j,c,o,B,g,f⟩:=pM he;obtain⟨w,k,d⟩:=r.get o;have n:=r.length;have hn:=uQ;have fin:EP X pins σ Q w s:=⟨z,H,I,d,q⟩;by_cases h0:0<=i
 ·have e:i.toNat=j:=by
   rw[seqIndex_of h0 f]at c;exact z07 c
  exact item_listR pl.isList h0 (dr hn f hz) (by rw[e];simpa using k) fin l
 ·have e:(i+(its.toArray.size:Int)).toNat=j:=by
   rw[seqIndex_neg (yh4.1 h0) g]at c;rw[zZ0,<-n];exact z07 c
  exact subscriptTail_builtinR (x:=w) pl.isList.typeIs slot_list_getitem.lookup
   (wpAny_getItem_list_neg (Q:=λr s'=>r=w/\EP X pins σ Q r s') pl.isList (yh4.1 h0) (by rw[zZ0]<;>lia) (dY g hz hn) (by rw[e];simpa using k) ⟨rfl,fin⟩) l
theorem cM :IxR X (zG0 X.K):=by
 intro value slice pins s σ H x y v u Q I l e h o;obtain⟨p,xs,i,z,rfl,rfl,hq,he,q⟩:=h;cases l;obtain⟨t,rfl⟩:=e;obtain⟨its,r,pl,hz⟩:=I.tuple hq;obtain⟨j,f,k,A,m,d⟩:=pM he;obtain⟨w,n,c⟩:=r.get k;have g:=r.length;have hn:=uQ;have fin:EP X pins σ Q w s:=⟨z,H,I,c,q⟩;exact subscriptTail_builtinR (x:=w) pl.typeIs slot_tuple_getitem.lookup
  (getItem_tuple (j:=j) (Q:=λr s'=>r=w/\EP X pins σ Q r s') pl (dY m hz hn) (dr hn d hz) (by rw[zZ0,<-g];exact f) (by simpa using n) ⟨rfl,fin⟩) o
theorem zJ3 :IxR X zP4:=by
 intro value slice pins s σ H x y v u Q I k g h n;obtain⟨z,i,c,rfl,rfl,hz,he,q⟩:=h;obtain⟨t,rfl⟩:=k;obtain⟨t',rfl⟩:=g;obtain⟨j,d,e,p,l,f⟩:=pM he;have m:z.cps.toList.length=z.length:=by simp[Str.length]
 rw[m]at d l f;have hn:=uQ;exact tail_any (typeIs_str s z t) slot_str_getitem.lookup (getItem_str (c:=c) (by
  have e1:decide (i < -(2 ^ 63:Int))=false:=z06 (by lia);have o:decide (i≥2 ^ 63)=false:=z06 (by lia);rw[e1,o,yd2]) (by rw[d];simpa using e) ⟨.str ⟨#[c]⟩,H,I.tok _,⟨_,rfl⟩,q⟩) n
def rIx (K:PySem.W.Frag):R2:=λx y H Q=>zM5 K x y H Q\/zG0 K x y H Q\/zP4 x y H Q
theorem zz9 :IxR X (rIx X.K):=zL.or (cM.or zJ3)
theorem lZ (its:List Value)(n j:Nat)(u:Value):Obj.mapSeq (·.setIfInBounds j u) {cls:=.type "list",data:=.seq its.toArray n}={cls:=.type "list",data:=.seq (its.set j u).toArray n}:=by simp[Obj.mapSeq]
theorem Inv.lst {pins:List (Addr×Obj)}{σ:St}{H:Hp}{s:Shared}{p:Addr}{xs:List V}(I:Inv X pins σ H s)(h:H p=some (.lst xs)):
  ∃(its:List Value) (n:Nat),Vals xs its/\s.heap.get? p=some {cls:=.type "list",data:=.seq its.toArray n}/\xs.length<=sizeLine:=by
 obtain⟨z,its,n,r,e⟩:=I.hok p _ h;exact⟨its,n,r,e,z⟩
theorem Inv.lstUpd {pins:List (Addr×Obj)}{σ:St}{H:Hp}{s:Shared}{p:Addr}{xs ys:List V}{its its':List Value}{n c:Nat}{f:Obj->Obj}(I:Inv X pins σ H s)(h:H p=some (.lst xs))
  (d:s.heap.get? p=some {cls:=.type "list",data:=.seq its.toArray n}) (hf:f {cls:=.type "list",data:=.seq its.toArray n}={cls:=.type "list",data:=.seq its'.toArray c}) (r:Vals ys its') (hz:ys.length<=sizeLine) (t:Nat):
  Inv X pins σ (upd H p (.lst ys)) {s with heap:=s.heap.update p f,toks:=t}:=by
 have e:(s.heap.update p f).get? p=some {cls:=.type "list",data:=.seq its'.toArray c}:=by rw[z48 f d (by rw[hf]<;>rfl),hf]
 refine I.write (x:=p) (e:=p) (by rw[h];trivial) (.inl rfl) (λb u hb q=>(zZ2 _ _ (z24 hb)).trans q) ⟨_,e⟩ ?_;exact⟨hz,its',c,r,e⟩
def zs8 :V->V->V->Hp->(Hp->Prop)->Prop:=λo i v H Q=>∃p xs k j,o=.ref p/\i=.int k/\H p=some (.lst xs)/\ixN xs.length k=some j/\Q (upd H p (.lst (xs.set j v)))
theorem set_list :zO8 X zs8:=by
 intro pins s σ H o i v B A u Q I x y w h;obtain⟨p,xs,k,j,rfl,rfl,l,z,q⟩:=h;cases x;obtain⟨t,rfl⟩:=y;obtain⟨its,n,r,e,hz⟩:=I.lst l;obtain⟨c,C,g,f⟩:=oQ z;have d:=r.length;have hn:=uQ;have m:Inv X pins σ (upd H p (.lst (xs.set j v))) {s with heap:=s.heap.update p (Obj.mapSeq (·.setIfInBounds j u))}:=
  I.lstUpd l e (lZ its n j u) (r.set w j) (by rw[z31];exact hz) s.toks
 by_cases h0:0<=k
 ·have hk:k.toNat=j:=by
   rw[seqIndex_of h0 f]at c;exact z07 c
  exact PySem.W.ki_setAt e h0 (dr hn f hz) (by rw[zZ0,<-d];exact f) (by rw[hk];exact⟨_,m,q⟩)
 ·have hk:(k+(its.toArray.size:Int)).toNat=j:=by
   rw[seqIndex_neg (yh4.1 h0) g]at c;rw[zZ0,<-d];exact z07 c
  exact PySem.W.ki_setBack e (yh4.1 h0) (by rw[zZ0,<-d];exact g) (dY g hz hn) (by rw[hk];exact⟨_,m,q⟩)
theorem pG (lo hi:Option Int)(n:Nat):(sliceBounds lo hi none n).1=((HT.sIx n 0 lo:Nat):Int)/\(sliceBounds lo hi none n).2.1=((HT.sIx n n hi:Nat):Int)/\(sliceBounds lo hi none n).2.2=1:=by
 refine⟨?_,?_,rfl⟩
 ·cases lo with
  |none=>simp[sliceBounds,HT.sIx]
  |some i=>
   simp only[sliceBounds,HT.sIx,Option.getD_none,show(1:Int) > 0 by decide,yb2];by_cases h:i<0
   ·simp only[h,yb2]<;>exact zx4 h
   ·simp only[h,z73]<;>exact zt9
 ·cases hi with
  |none=>simp[sliceBounds,HT.sIx]
  |some i=>
   simp only[sliceBounds,HT.sIx,Option.getD_none,show(1:Int) > 0 by decide,yb2];by_cases h:i<0
   ·simp only[h,yb2]<;>exact zx4 h
   ·simp only[h,z73]<;>exact zt9
theorem qm (its:List Value)(lo hi:Option Int):slicePick its.toArray lo hi none=((its.drop (HT.sIx its.length 0 lo)).take (HT.sIx its.length its.length hi-HT.sIx its.length 0 lo)).toArray:=by
 obtain⟨d,c,e⟩:=pG lo hi its.toArray.size;unfold slicePick;rw[d,c,e];simp only[sliceRange_one,pick_run,zZ0]<;>rfl
def zW5 (K:PySem.W.Frag):V->Option Int->Option Int->Hp->VK->Prop:=λx lo hi H Q=>∃a xs,x=.ref a/\SqL K H a xs/\∀p,H p=none->Q (.ref p) (upd H p (.lst (nY xs lo hi)))
theorem oH :SlR X (zW5 X.K):=by
 intro pins s σ H x v i g lo hi sl Q I e f pl pu h;obtain⟨a,xs,rfl,d,q⟩:=h;cases e;obtain⟨its,r,c,hz⟩:=I.list d;have hlen:=r.length;refine⟨"list",_,slot_list_getitem.lookup,c.isList.typeIs,?_⟩;refine wpAny_getItem_list_slice c.isList f pl pu .none (by simp) ?_ (by rw[zZ0]<;>exact zY8 (zZ5 hlen.symm) hz);rw[qm,<-hlen];refine⟨.ref s.heap.objs.size,_,I.laid (t':=s.toks) (o:=.lst (nY xs lo hi)) (λb ob q=>zX6 _ q) (zY1 _) ?_,rfl,q _ (I.hok.fresh (zY1 _))⟩;exact⟨zY8 (nu xs lo hi) hz,_,0,(r.drop (HT.sIx xs.length 0 lo)).take (HT.sIx xs.length xs.length hi-HT.sIx xs.length 0 lo),zY7 _ rfl⟩
def vK :V->Bool
 |.non=>true
 |.bl _=>true
 |.int _=>true
 |.str _=>true
 |_=>false
def eqV :V->V->Bool
 |.non,.non=>true
 |.bl a,.bl b=>a == b
 |.bl a,.int b=>(if a then 1 else 0)==b
 |.int a,.bl b=>a == (if b then 1 else 0)
 |.int a,.int b=>a == b
 |.str a,.str b=>a == b
 |_,_=>false
theorem zB4 {A:Around}{s:Shared}{y x:V}{u v:Value}(e:RelV y u)(c:RelV x v)(f:vK y=true)(d:vK x=true):SeqAt.EqAt A s u v (eqV y x):=by
 cases y with
 |non=>
  cases e;cases x with
  |non=>cases c;exact SeqAt.EqAt.same _
  |bl b=>cases c;exact SeqAt.EqAt.none_bool b
  |int b=>obtain⟨t,rfl⟩:=c;exact SeqAt.EqAt.none_int b t
  |str b=>obtain⟨t,rfl⟩:=c;exact SeqAt.EqAt.none_str b t
  |_=>exact absurd (show false=true from d) z04
 |bl a=>
  cases e;cases x with
  |non=>cases c;exact SeqAt.EqAt.bool_none a
  |bl b=>cases c;exact SeqAt.EqAt.bool_bool a b
  |int b=>obtain⟨t,rfl⟩:=c;exact SeqAt.EqAt.bool_int a b t
  |str b=>obtain⟨t,rfl⟩:=c;exact SeqAt.EqAt.bool_str a b t
  |_=>exact absurd (show false=true from d) z04
 |int a=>
  obtain⟨t',rfl⟩:=e;cases x with
  |non=>cases c;exact SeqAt.EqAt.int_none a t'
  |bl b=>cases c;exact SeqAt.EqAt.int_bool a t' b
  |int b=>obtain⟨t,rfl⟩:=c;exact SeqAt.EqAt.int_int a t' b t
  |str b=>obtain⟨t,rfl⟩:=c;exact SeqAt.EqAt.int_str a t' b t
  |_=>exact absurd (show false=true from d) z04
 |str a=>
  obtain⟨t',rfl⟩:=e;cases x with
  |non=>cases c;exact SeqAt.EqAt.str_none a t'
  |bl b=>cases c;exact SeqAt.EqAt.str_bool a t' b
  |int b=>obtain⟨t,rfl⟩:=c;exact SeqAt.EqAt.str_int a t' b t
  |str b=>obtain⟨t,rfl⟩:=c;exact SeqAt.EqAt.str_str a t' b t
  |_=>exact absurd (show false=true from d) z04
 |_=>exact absurd (show false=true from f) z04
def eqU (x:V)(u:Value):Bool:=match u with
 |.none=>eqV .non x
 |.bool b=>eqV (.bl b) x
 |.int i _=>eqV (.int i) x
 |.str z _=>eqV (.str z) x
 |_=>false
theorem bB {x y:V}{u:Value}(r:RelV y u)(f:vK y=true):eqU x u=eqV y x:=by
 cases y with
 |non=>cases r;rfl
 |bl b=>cases r;rfl
 |int i=>obtain⟨t,rfl⟩:=r;rfl
 |str z=>obtain⟨t,rfl⟩:=r;rfl
 |_=>exact absurd (show false=true from f) z04
theorem tX {x:V}{xs:List V}{us:List Value}(h:Vals xs us)(f:xs.all vK=true):us.any (eqU x)=xs.any λy=>eqV y x:=by
 induction h with
 |nil=>rfl
 |cons r _ c=>
  rw[yi6,z21]at f;rw[z83,z83,bB r f.1,c f.2]
theorem vd {A:Around}{s:Shared}{x:V}{v:Value}(e:RelV x v)(d:vK x=true):∀{xs:List V}{us:List Value},Vals xs us->xs.all vK=true->∀u∈us,SeqAt.EqAt A s u v (eqU x u)
 |_,_,.nil,_=>λu c=>by cases c
 |y::xs,u::us,.cons r t,f=>λg c=>by
  rw[yi6,z21]at f;rcases zY4.mp c with rfl|c
  ·rw[bB r f.1];exact zB4 r e f.1 d
  ·exact vd e d t f.2 g c
def inV (x:V)(xs:List V):Bool:=xs.any λy=>eqV y x
def rIn (K:PySem.W.Frag)(neg:Bool):R2:=λx y H Q=>∃p xs,y=.ref p/\(SqL K H p xs\/SqT K H p xs)/\vK x=true/\xs.all vK=true/\Q (.bl (if neg then !inV x xs else inV x xs)) H
theorem gP :OpR X (compareOp .In) (rIn X.K false):=by
 intro pins s σ H x y v u Q I d e h;obtain⟨p,xs,rfl,hq,c,fs,q⟩:=h;cases e;rcases hq with hq|hq
 ·obtain⟨its,r,pl,hz⟩:=I.list hq;refine SeqAt.in_listAt (eqU x) pl.isList (λw hw=>vd d c r fs w (by simpa using hw)) ⟨.bl _,H,I,rfl,?_⟩;rw[show its.toArray.any (eqU x)=its.any (eqU x) by simp,tX r fs];exact q
 ·obtain⟨its,r,pl,hz⟩:=I.tuple hq;refine SeqAt.in_tupleAt (eqU x) pl (λw hw=>vd d c r fs w (by simpa using hw)) ⟨.bl _,H,I,rfl,?_⟩;rw[show its.toArray.any (eqU x)=its.any (eqU x) by simp,tX r fs];exact q
theorem oz :OpR X (compareOp .NotIn) (rIn X.K true):=by
 intro pins s σ H x y v u Q I d e h;obtain⟨p,xs,rfl,hq,c,fs,q⟩:=h;cases e;rcases hq with hq|hq
 ·obtain⟨its,r,pl,hz⟩:=I.list hq;refine SeqAt.notIn_listAt (eqU x) pl.isList (λw hw=>vd d c r fs w (by simpa using hw)) ⟨.bl _,H,I,rfl,?_⟩;rw[show its.toArray.any (eqU x)=its.any (eqU x) by simp,tX r fs];exact q
 ·obtain⟨its,r,pl,hz⟩:=I.tuple hq;refine SeqAt.notIn_tupleAt (eqU x) pl (λw hw=>vd d c r fs w (by simpa using hw)) ⟨.bl _,H,I,rfl,?_⟩;rw[show its.toArray.any (eqU x)=its.any (eqU x) by simp,tX r fs];exact q
theorem yG :yI X (.builtin "len") (λxs H Q=>∃p ys,xs=[.ref p]/\(SqL X.K H p ys\/SqT X.K H p ys)/\Q (.int ys.length) H):=by
 intro pins s σ H xs us Q I r h;obtain⟨p,ys,rfl,hq,q⟩:=h;obtain⟨u,rfl,d⟩:=vals1 r;cases d;have hn:=uQ;rcases hq with hq|hq
 ·obtain⟨its,c,pl,hz⟩:=I.list hq;have hlen:=c.length;exact Calls.call_len_list pl.isList (by simp only[zZ0]<;>exact zt2 hn hlen hz) ⟨.int ys.length,H,I.tok _,⟨s.toks+1,by rw[zZ0,hlen]⟩,q⟩
 ·obtain⟨its,c,pl,hz⟩:=I.tuple hq;have hlen:=c.length;exact len_tuple pl (by simp only[zZ0]<;>exact zt2 hn hlen hz) ⟨.int ys.length,H,I.tok _,⟨s.toks+1,by rw[zZ0,hlen]⟩,q⟩
theorem ui :yI X (.type "list") (λxs H Q=>∃p ys,xs=[.ref p]/\(SqL X.K H p ys\/SqT X.K H p ys)/\∀l,H l=none->Q (.ref l) (upd H l (.lst ys))):=by
 intro pins s σ H xs us Q I r h;obtain⟨p,ys,rfl,hq,q⟩:=h;obtain⟨u,rfl,g⟩:=vals1 r;cases g;have fin:∀(its:List Value),Vals ys its->ys.length<=sizeLine->∀(h':Heap) (c':Nat),(∀b o',s.heap.get? b=some o'->h'.get? b=some o')->
   h'.get? s.heap.objs.size=some {cls:=.type "list",dict:=none,data:=.seq its.toArray c',slots:=#[]}->EP X pins σ Q (.ref s.heap.objs.size) {s with heap:=h'}:=λits c hz h' c' kp e=>
  ⟨.ref s.heap.objs.size,_,I.laid (t':=s.toks) kp (zY1 _) (show zA X.prog X.w _ h' _ (.lst ys)from⟨hz,its,c',c,e⟩),rfl,q _ (I.hok.fresh (zY1 _))⟩
 rcases hq with hq|hq
 ·obtain⟨its,c,pl,hz⟩:=I.list hq;have hlen:=c.length;obtain⟨o,f,d,n,hd⟩:=pl.isList;exact call_list_seq p (.inl rfl) f d hd (λh' c' kp e=>fin its c hz h' c' kp e) (by simp only[zZ0]<;>exact zY8 (zZ5 hlen.symm) hz)
 ·obtain⟨its,c,pl,hz⟩:=I.tuple hq;have hlen:=c.length;obtain⟨o,f,d,n,hd⟩:=pl;exact call_list_seq p (.inr rfl) f d hd (λh' c' kp e=>fin its c hz h' c' kp e) (by simp only[zZ0]<;>exact zY8 (zZ5 hlen.symm) hz)
def tyV (K:PySem.W.Frag)(T:String)(x:V)(H:Hp):Prop:=match x with
 |.str _=>T="str"
 |.int _=>T="int"
 |.ref p=>(T="list"/\∃xs,SqL K H p xs)\/(T="tuple"/\∃o,K.lookup p=some o/\o.cls=.type "tuple"/\o.dict=none)\/
   (T="dict"/\((∃kvs,H p=some (.dK kvs))\/∃kvs,H p=some (.dT kvs)))\/(T="set"/\∃S n,H p=some (.set S n))
 |_=>False
theorem zA8 {pins:List (Addr×Obj)}{σ:St}{H:Hp}{s:Shared}{T:String}{x:V}{v:Value}(I:Inv X pins σ H s)(r:RelV x v)(ty:tyV X.K T x H):
  s.TypeIs v T/\∀a,v=.ref a->∃ob,s.heap.get? a=some ob/\ob.dict=none:=by
 cases x with
 |str z=>
  obtain⟨t,rfl⟩:=r;cases(show T="str" from ty);exact⟨typeIs_str s z t,λ_ e=>nomatch e⟩
 |int i=>
  obtain⟨t,rfl⟩:=r;cases(show T="int" from ty);exact⟨typeIs_int s i t,λ_ e=>nomatch e⟩
 |ref p=>
  cases r;rcases ty with⟨rfl,xs,hq⟩|⟨rfl,o,hk,f,hd⟩|⟨rfl,hk⟩|⟨rfl,S,n,hk⟩
  ·obtain⟨its,_,pl,_⟩:=I.list hq;refine⟨pl.isList.typeIs,λa e=>?_⟩;cases e;obtain⟨o,n,e,c,hd,_⟩:=pl;exact⟨o,e,hd⟩
  ·refine⟨⟨o,I.kIn p o hk,f⟩,λa e=>?_⟩;cases e;exact⟨o,I.kIn _ o hk,hd⟩
  ·have z:∃o,s.heap.get? p=some o/\o.ExactDict:=by
    rcases hk with⟨kvs,hk⟩|⟨kvs,hk⟩
    ·obtain⟨_,_,_,_,o,_,_,e,ex,_⟩:=I.hok p _ hk;exact⟨o,e,ex⟩
    ·obtain⟨_,_,_,_,o,_,_,e,ex,_⟩:=I.hok p _ hk;exact⟨o,e,ex⟩
   obtain⟨o,e,ex⟩:=z;refine⟨⟨o,e,ex.1⟩,λa d=>?_⟩;cases d;exact⟨o,e,ex.2.1⟩
  ·obtain⟨o,_,_,_,e,ex,_⟩:=I.hok p _ hk;refine⟨⟨o,e,ex.1⟩,λa d=>?_⟩;cases d;exact⟨o,e,ex.2.1⟩
 |_=>exact False.elim ty
def tBM (K:PySem.W.Frag)(T:String)(r:V->List V->Hp->VK->Prop)(to:TE)(t:TA):TE:=λσ H Q=>to σ H λx H1=>tyV K T x H1/\t σ H1 λxs c=>r x xs c Q
variable {o e:Expr}{es:List Expr}{to:TE}{t:TA}{name:Str}{apos cpos:Pos}{T id:String}{r:V->List V->Hp->VK->Prop}
theorem za1 (q:PlainAttrs T)(slot:Slot T name id)(k:typeOf (.builtin id)=pure (.type "method_descriptor"))(hm:MtR X id r)(C:PE X o to)(ha:PA X (e::es) t)
  (f:attributeBase o name X.env (eval o X.env)=eval o X.env:=by rfl)
  (i:((backTo cpos (starEach (e::es) X.env)).all (λx=>!x.1)&&(backToKw cpos (keywordEach [] X.env)).all (λx=>x.1.isSome)
   &&decide ((e::es).length+([]:List Keyword).length+(if([]:List Keyword).isEmpty then 0 else 1)<30))=true:=by rfl)
  (d:(apos.endLine == cpos.line)=true:=by rfl) (D:starEach (e::es) X.env=(false,eval e X.env)::starEach es X.env:=by rfl) (c:(backTo cpos (starEach es X.env)).any (·.1)=false:=by rfl):
  PE X (.Call (.Attribute o name apos) (e::es) [] cpos) (tBM X.K T r to t):=by
 intro pins s σ H Q I h;refine wpAny_Call_method_late f i d rfl (thn (C pins s σ H _ I h) λv s1 j=>?_);obtain⟨x,H1,m,l,ty,A⟩:=j;obtain⟨u,z⟩:=zA8 m l ty;refine⟨T,id,q,slot,k,u,z,?_⟩;have n:=ha cpos pins s1 σ H1 _ m A;rw[D]at n ⊢;refine Calls.callWith_builtin (by show(false||(backTo cpos (starEach es X.env)).any (·.1))=false;rw[c]<;>rfl) (Calls.evalArgs_plain ?_);exact thn n λus s2 g=>by obtain⟨vs,w,y,B,p⟩:=g;exact hm pins s2 σ w x vs v us Q y l B p
/- xs.append(e),list.index on a module's tuple .. are MtR facts of 06m -/
end
def MtM (X:Cx)(id:String)(r:V->List V->Hp->VK->Prop):Prop:=
 ∀(pins:List (Addr×Obj)) (s:Shared) (σ:St) (H:Hp) (x:V) (xs:List V) (v:Value) (us:List Value) (Q:VK),Inv X pins σ H s->RelV x v->Vals xs us->r x xs H Q->
  wpAny (model X.prog X.w) X.A (call (.builtin id) (v::us)) (EP X pins σ Q) X.xe s
theorem Vals.one {x:V}{us:List Value}(h:Vals [x] us):∃u,us=[u]/\RelV x u:=by
 cases h with
 |cons r q=>cases q;exact⟨_,rfl,r⟩
theorem Vals.two {x y:V}{us:List Value}(h:Vals [x,y] us):∃u v,us=[u,v]/\RelV x u/\RelV y v:=by
 cases h with
 |cons r q=>
  cases q with
  |cons q z=>cases z;exact⟨_,_,rfl,r,q⟩
theorem Vals.eraseIdx :∀{xs:List V}{us:List Value} (i:Nat),Vals xs us->Vals (xs.eraseIdx i) (us.eraseIdx i)
 |_,_,_,.nil=>.nil
 |_,_,0,.cons _ t=>t
 |_,_,i+1,.cons r t=>.cons r (Vals.eraseIdx i t)
theorem qG {α:Type}:∀(l:List α) (i:Nat),(l.eraseIdx i).length<=l.length
 |[],_=>zY1 _
 |_::_,0=>z64 _
 |_::r,i+1=>Nat.succ_le_succ (qG r i)
section
variable {X:Cx}{pins:List (Addr×Obj)}{σ:St}{H:Hp}{s:Shared}{l b:Addr}{xs ys zs:List V}
theorem Inv.lset {its its':List Value}{n:Nat}{f:Array Value->Array Value}{t':Nat}(I:Inv X pins σ H s)(c:H l=some (.lst xs))
  (e:s.heap.get? l=some {cls:=.type "list",data:=.seq its.toArray n}) (hf:f its.toArray=its'.toArray) (a:Vals ys its') (hz:ys.length<=sizeLine):
  Inv X pins σ (upd H l (.lst ys)) {s with heap:=s.heap.update l (Obj.mapSeq f),toks:=t'}:=by
 have q:=PySem.IsL.update e f;rw[hf]at q;refine I.write (x:=l) (e:=l) (by rw[c];exact trivial) (.inl rfl) (λg u hb d=>(zZ2 s.heap (Obj.mapSeq f) (z24 hb)).trans d) ⟨_,q⟩ ?_;exact⟨hz,its',_,a,q⟩
theorem Inv.lnew {its:List Value}{t':Nat}(I:Inv X pins σ H s)(a:Vals ys its)(hz:ys.length<=sizeLine):
  Inv X pins σ (upd H s.heap.objs.size (.lst ys)) {s with heap:=s.heap.push {cls:=.type "list",data:=.seq its.toArray},toks:=t'}:=
 I.laid (λ_ _ q=>zX6 _ q) (zY1 _) ⟨hz,its,0,a,zY7 _ rfl⟩
theorem Inv.fresh (I:Inv X pins σ H s):H s.heap.objs.size=none:=I.hok.fresh (zY1 _)
theorem Inv.lstM (I:Inv X pins σ H s)(a:H l=some (.lst xs)):xs.length<=sizeLine/\∃(its:List Value) (n:Nat),Vals xs its/\xs.length=its.length/\s.heap.get? l=some {cls:=.type "list",data:=.seq its.toArray n}:=by
 obtain⟨z,its,n,r,e⟩:=I.hok l _ a;exact⟨z,its,n,r,r.length,e⟩
theorem ar {n:Nat}(h:n<=sizeLine):Builtin.List.listTooLong n=false:=by
 unfold Builtin.List.listTooLong;exact z06 (Nat.not_lt_of_le h)
end
section
variable {X:Cx}
def zj0 :V->List V->Hp->VK->Prop:=λx vs H Q=>∃l xs y,x=.ref l/\vs=[y]/\H l=some (.lst xs)/\xs.length<sizeLine/\Q .non (upd H l (.lst (xs++[y])))
theorem qW :MtM X "list.append" zj0:=by
 intro pins s σ H x vs v us Q I b c h;obtain⟨l,xs,y,rfl,rfl,a,hz,q⟩:=h;cases b;obtain⟨u,rfl,d⟩:=c.one;obtain⟨z,its,n,r,f,e⟩:=I.lstM a;refine call_meets F.slot_list_append ⟨_,e,rfl⟩ F.entry_list_append (F.args_list_append_2 _ _) (PySem.list_append l its.toArray n u (by rw[zZ0];exact z36 (z02 (zZ5 f.symm) hz))) ⟨e,?_⟩;refine⟨.non,_,I.lset (its':=its++[u]) a e (by simp) (r.append (.cons d .nil)) ?_,rfl,q⟩;rw[zZ9,yc0];exact hz
def zj5 :V->List V->Hp->VK->Prop:=λx vs H Q=>∃l b xs zs,x=.ref l/\vs=[.ref b]/\H l=some (.lst xs)/\H b=some (.lst zs)/\xs.length+zs.length<=sizeLine/\Q .non (upd H l (.lst (xs++zs)))
theorem gI :MtM X "list.extend" zj5:=by
 intro pins s σ H x vs v us Q I m i h;obtain⟨l,b,xs,zs,rfl,rfl,f,p,hz,q⟩:=h;cases m;obtain⟨u,rfl,t⟩:=i.one;cases t;obtain⟨z,its,n,r,g,e⟩:=I.lstM f;obtain⟨w,a,j,o,d,k⟩:=I.lstM p;have hsz:its.toArray.size+a.toArray.size<=sizeLine:=by rw[zZ0,zZ0];exact zw9 hz g d
 have c:¬(!its.toArray.isEmpty&&Builtin.List.listTooLong (its.toArray.size+a.toArray.size))=true:=by
  rw[ar hsz,Bool.and_false];exact z04
 refine call_meets F.slot_list_extend ⟨_,e,rfl⟩ F.entry_list_extend (F.args_list_extend_2 _ _)
  (AutoSeq1.list_extend_list_list_0 l its.toArray n b a.toArray j c (by rw[zZ0];exact zY8 (zZ5 g.symm) z) (zY8 hsz (zZ3 _ _))) ⟨e,k,?_⟩
 refine⟨.non,_,I.lset (its':=its++a) f e (by simp) (r.append o) ?_,rfl,q⟩;rw[zZ9];exact hz
def zG1 :V->List V->Hp->VK->Prop:=λx vs H Q=>∃l xs i k y,x=.ref l/\vs=[.int i]/\H l=some (.lst xs)/\-(2 ^ 63)<=i/\i<2 ^ 63/\seqIndex? i xs.length=some k/\xs[k]?=some y/\Q y (upd H l (.lst (xs.eraseIdx k)))
theorem ze1 :MtM X "list.pop" zG1:=by
 intro pins s σ H x vs v us Q I f g h;obtain⟨l,xs,i,k,y,rfl,rfl,b,j,d,hk,hy,q⟩:=h;cases f;obtain⟨u,rfl,m⟩:=g.one;obtain⟨t,rfl⟩:=m;obtain⟨z,its,n,r,c,e⟩:=I.lstM b;obtain⟨w,hw,a⟩:=r.get hy;refine call_meets F.slot_list_pop ⟨_,e,rfl⟩ F.entry_list_pop (F.args_list_pop_2 _ _)
  (MeetsSeq.list_pop_at l its.toArray n i t k w (fitsIndex_both j d) (by rw[zZ0,<-c];exact hk) (by rw[<-Array.getElem?_toList];exact hw) (by rw[zZ0];exact zY8 (zZ5 c.symm) z)) ⟨e,?_⟩
 refine⟨y,_,I.lset (its':=its.eraseIdx k) b e ?_ (r.eraseIdx k) ?_,a,q⟩
 ·show its.toArray.eraseIdxIfInBounds k=(its.eraseIdx k).toArray;rw[List.eraseIdxIfInBounds_toArray]
 ·have:=qG xs k;exact zY8 this z
def zV2 :R2:=λx y H Q=>∃l b xs zs,x=.ref l/\y=.ref b/\H l=some (.lst xs)/\H b=some (.lst zs)/\xs.length+zs.length<=sizeLine/\∀p,H p=none->Q (.ref p) (upd H p (.lst (xs++zs)))
theorem zG8 :OpR X (binaryOp .Add) zV2:=by
 intro pins s σ H x y v u Q I g f h;obtain⟨l,b,xs,zs,rfl,rfl,d,k,hz,q⟩:=h;cases g;cases f;obtain⟨z,its,n,r,m,e⟩:=I.lstM d;obtain⟨p,a,t,i,c,o⟩:=I.lstM k;refine PySem.P.add_list e o ?_ (by rw[zZ0,zZ0];exact zw9 hz m c);have j:its.toArray++a.toArray=(its++a).toArray:=by simp
 rw[j];exact⟨.ref _,_,I.lnew (t':=s.toks) (r.append i) (by rw[zZ9];exact hz),rfl,q _ I.fresh⟩
end
section
variable {prog:Program}{w:World}{A:Around}{E:Value->Shared->Prop}{s:Shared}
end
section
variable {X:Cx}
end
end L2
namespace Att
open PySem PySem.W PySem.Calls PyProof.Rows
theorem tK {P:Params}{h:Heap}:∀(ns:List Int) (vs:List Value),WellAll P h vs (ns.map WData.int)->IntsAre vs ns:=by
 intro ns
 induction ns with
 |nil=>
  intro vs w;rw[List.map_nil]at w;cases w;exact .nil
 |cons n ns c=>
  intro vs w;rw[z03]at w;cases w with
  |cons a b=>
   cases a;exact .cons _ _ (c _ b)
theorem eB {l:OpenLaw}{n:Nat}(hn:l.most=some n){P:Params}{h:Heap}{args:List WData}{vals:List Value}
  (b:l.row.toRowW.claim.pre args=true) (g:WellAll P h vals args):
  ∃a vs ns,vals=[Value.ref a]/\args=[WData.list (ns.map WData.int)]/\h.get? a=some {cls:=.type "list",data:=.seq vs.toArray}/\IntsAre vs ns/\ns.length<=n:=by
 have i:WShape.hasAll [] args [.list .int]=true:=(pre_splitW b).1;have j:l.pre.holds [] {args:=args}=true:=(pre_splitW b).2;obtain⟨d,r,rfl,o,k⟩:=hasAllW_cons i;obtain rfl:=hasAllW_nil k;obtain⟨xs,rfl,s⟩:=hasW_list o;obtain⟨ns,rfl⟩:=items_int s;have hlen:ns.length<=n:=by
  unfold OpenLaw.pre at j;have f:(WTm.not (.lt (.lit (.int (n:Int))) (.len (.arg 0)))).holds [] {args:=[.list (ns.map .int)]}=true:=by
   have f:=(holds_andW j).1;rw[hn]at f;exact f
  have e:=condW_of f (w_not (w_lt w_lit (w_len_list (w_arg rfl))));rw[zX7]at e;refine z86 λq=>?_;have m:(n:Int)<((ns.length:Nat):Int):=(Int.ofNat_lt.2 q)
  first
   |(rw[z28 m]at e;exact absurd e (by decide))
   |(simp at e;omega)
 cases g with
 |cons u t=>
  cases t;cases u with
  |list p c=>exact⟨_,_,ns,rfl,rfl,p,tK ns _ c,hlen⟩
theorem gN (l:OpenLaw)(args:List WData):l.row.toRowW.claim.post args (.bool true) args=true:=
 postW_of (r:=l.row.toRowW) (X:=(true == true))
  (show WShape.has [] (.bool true) .bool=true by first|rfl|decide|simp[WShape.has,WShape.arms,WShape.armsAll])
  (show(WTm.eq .res (.lit (.bool true))).value [] {args:=args,res:=some (.bool true),after:=args}=some (.bool (true == true))from w_eq_bool (w_res rfl) w_lit) rfl
theorem attach_call {l:OpenLaw}{n:Nat}{q:Program}{loose:List Str}{k:(Str->Option Value)->Heap->Prop}{p:World->Heap->Prop}{d:DefRec}
  (hn:l.most=some n) (hdf:d.params.defaults=[])
  (call:∀(w:World) (s₀ b:Shared) (mg mb:Str->Option Value) (e:Addr) (o:Obj) (pm cd doc:Value) (a:Addr) (vs:List Value) (ns:List Int),
   Ground q loose [] k w s₀ mg mb b.heap->p w b.heap->
   b.heap.get? e=some o->o.data=.func (docDef d.name d.params d.body d.scope pm cd doc)->b.heap.CodeRec cd d.name->mg d.name=some (.ref e)->
   b.heap.get? a=some {cls:=.type "list",data:=.seq vs.toArray}->IntsAre vs ns->ns.length<=n->b.gens=#[]->
   codeAny (model l.prog w) callerA (.call (.ref e) ⟨[.ref a],[]⟩) (λr s'=>r=.ok (.ret (.bool true))/\OldK b.heap s'.heap/\s'.os=b.os/\AllBare s'.gens) b):
  WalkO q loose k p l.row.toRowW d [] (λf vs=>PySem.call f vs):=by
 intro w s₀ b mg mb G Y e o pm cd doc dV kV u hd j hD h hg args vals as c m t i y;obtain rfl:dV=.none:=Dflts.none hD hdf;obtain rfl:kV=.none:=Dflts.noKw hD;obtain⟨a,vs,ns,rfl,rfl,g,hints,hlen⟩:=eB hn c i;refine enter_call (yb9 (call w s₀ b mg mb e o pm cd doc a vs ns G Y u (fd_plain hd) j h g hints hlen hg) λr s' hq=>?_);obtain⟨rfl,s,x,v⟩:=hq;exact⟨.inl ⟨.bool true,.bool true,[],rfl,λ_=>rfl,.bool true,gN l _,λ_=>⟨List.Pairwise.nil,λ_ hm=>(nomatch hm)⟩⟩,s,x,v⟩
section
variable {prog:Program}{w:World}{A:Around}{E:Value->Shared->Prop}{s:Shared}{K:Frag}
end
end Att
namespace L2
open PySem PySem.Spec PyProof.Rows
theorem fv {vs:List Value}{ns:List Int}(h:IntsAre vs ns):Vals (ns.map V.int) vs:=by
 induction h with
 |nil=>exact .nil
 |cons n t _ a=>exact .cons ⟨t,rfl⟩ a
def inClass (s:Stmt)(j:Nat):Stmt:=match s with
 |.ClassDef _ _ _ body _ _ _ _ _ _ _=>body.getD j (.Pass ⟨0,0,0,0⟩)
 |_=>.Pass ⟨0,0,0,0⟩
def zN (s:Stmt):Arguments:=match s with
 |.FunctionDef _ a _ _ _ _ _ _ _ _=>a
 |_=>{posonlyargs:=[],args:=[],vararg:=none,kwonlyargs:=[],kw_defaults:=[],kwarg:=none,defaults:=[]}
def zr (s:Stmt):List Stmt:=match s with
 |.FunctionDef _ _ b _ _ _ _ _ _ _=>b
 |_=>[]
def zd (s:Stmt):Scope:=match s with
 |.FunctionDef _ _ _ _ _ _ sc _ _ _=>sc
 |_=>{kind:=.function,names:=[],isGenerator:=false,isCoroutine:=false}
abbrev CX0 :CXT:=λ_ _ _ _ _ _=>False
abbrev E0 :XK:=λ_ _ _=>False
theorem qL {X:Cx}:Passes CX0 X E0:=λ_ _ _ _ _ _ _ h=>h.elim
structure Fun (K:PySem.W.Frag)(x qual:Str)(st:Stmt)(f:Addr)(fd:FuncData):Prop where
 ex:∃(oc:Value) (od:Option Addr) (kV doc pm:Value) (an:Option Addr) (cdv ct:Value) (osl:Array (Option Value)),
  fd=PySem.W.fnOf x qual (zN st) (zr st) (zd st) .none kV doc pm an cdv ct/\K.lookup f=some ⟨oc,od,.func fd,osl⟩/\PySem.W.codeIn K cdv qual=true
 kp:PySem.W.keepIn K (.ref f)=true
section
variable {P:Program}{w:World}{K:PySem.W.Frag}{mg:Str->Option Value}{base:Heap}
theorem Fun.ok {x qual:Str}{st:Stmt}{f:Addr}{fd:FuncData}{N ps:List Str}{k:Nat}{sp:Sp}(F:Fun K x qual st f fd)(S:zI N ps (zd st))(len:∀vs H Q E,sp vs H Q E->vs.length=ps.length)
  (a:∀(cdv:Value) (A:Around) (outer:List Env) (s:Shared) (H:Hp) (vs:List V) (Q:VK) (E:XK),zG k (A.deeper (envOfC qual (zd st) s.heap.objs.size f cdv))->sp vs H Q E->
   ∃t,PSs (xp CX0 P w K mg base N qual (zd st) f cdv A outer s H E).nox (zr st) t/\t {nx:=λ_ H'=>Q .non H',rt:=Q} (start N vs) H):yn P w K mg base CX0 (k+1) f fd ps sp:=by
 obtain⟨oc,od,kV,doc,pm,an,cdv,ct,osl,rfl,d,c⟩:=F.ex;refine jW d c S len λA outer s H vs Q E hr b=>?_;obtain⟨t,h,q⟩:=a cdv A outer s H vs Q E hr b;exact⟨t,h.nox,q⟩
theorem Fun.binds {x qual:Str}{st:Stmt}{f:Addr}{fd:FuncData}{ps:List Str}(F:Fun K x qual st f fd)
  (h:∀(kV doc pm:Value) (an:Option Addr) (cdv ct:Value) (us:List Value),us.length=ps.length->bindArgs (PySem.W.fnOf x qual (zN st) (zr st) (zd st) .none kV doc pm an cdv ct) ⟨us,[]⟩=pure (ps.zip us)):Binds K fd ps []:=by
 obtain⟨oc,od,kV,doc,pm,an,cdv,ct,osl,rfl,b,a⟩:=F.ex;exact .all (h kV doc pm an cdv ct)
theorem oV {x qual:Str}{st:Stmt}{f:Addr}{oc:Value}{od an:Option Addr}{osl:Array (Option Value)}{kV doc pm cdv ct:Value}(l:K.lookup f=some ⟨oc,od,.func (PySem.W.fnOf x qual (zN st) (zr st) (zd st) .none kV doc pm an cdv ct),osl⟩)
  (c:PySem.W.codeIn K cdv qual=true) (k:PySem.W.keepIn K (.ref f)=true):Fun K x qual st f (PySem.W.fnOf x qual (zN st) (zr st) (zd st) .none kV doc pm an cdv ct):=⟨⟨oc,od,kV,doc,pm,an,cdv,ct,osl,rfl,l,c⟩,k⟩
end
theorem ye {n:Nat}(h:n<=1000):n<sizeLine:=z02 h (by decide)
section
variable {X:Cx}
theorem pv (i:Nat){x:Str}{pos:Pos}(c:X.N[i]?=some x:=by rfl)(b:Vis X.env.scope x:=by first|exact Or.inl rfl|exact Or.inr (Or.inl rfl)|exact Or.inr (Or.inr rfl))(hd:(x == ("__debug__":Str))=false:=by decide)
  (a:(x == ("__classdict__":Str))=false:=by decide):PE X (.Name x pos) (zE8 i):=yF c b hd a
end
theorem oC {A B:Prop}(h:B):if false=true then A else B:=by
 rw[if_neg z04];exact h
theorem oM {A B:Prop}(h:A):if true=true then A else B:=by
 rw[if_pos rfl];exact h
theorem dz {c A B:Prop}[Decidable c](b:c->A)(a:¬c->B):if c then A else B:=by
 by_cases h:c
 ·rw[if_pos h];exact b h
 ·rw[if_neg h];exact a h
def zw (H H':Hp):Prop:=∀b o,H b=some o->H' b=some o
theorem zw.refl (H:Hp):zw H H:=λ_ _ h=>h
theorem zw.trans {H H1 d:Hp}(a:zw H H1)(b:zw H1 d):zw H d:=λc o h=>b c o (a c o h)
theorem zw.free {H H':Hp}(e:zw H H'){l:Addr}(h:H' l=Option.none):H l=Option.none:=by
 cases q:H l with
 |none=>rfl
 |some o=>
  rw[e l o q]at h;cases h
theorem zw.seq {K:PySem.W.Frag}{H H':Hp}{a:Addr}{xs:List V}(e:zw H H')(h:SqL K H a xs):SqL K H' a xs:=by
 rcases h with(h|⟨o,h⟩)|h
 ·exact .inl (.inl (e _ _ h))
 ·exact .inl (.inr ⟨o,e _ _ h⟩)
 ·exact .inr h
def vZ (cells:List (Str×Addr)):List (Str×NameKind)->List (Str×Addr)->List (Str×Addr)
 |[],acc=>acc
 |(n,k)::r,acc=>vZ cells r (if k=.free then(n,(cells.lookup n).getD 0)::acc else acc)
theorem vN {env:Env}{scope:Scope}(h:∀y∈scope.names,y.2=.free->∃c,env.cells.lookup y.1=some c):
  closureFor scope env=pure (vZ env.cells scope.names []):=by
 have key:∀(ns:List (Str×NameKind)) (acc:List (Str×Addr)),(∀y∈ns,y.2=.free->∃c,env.cells.lookup y.1=some c)->
   (forIn ns acc λ(x:Str×NameKind) (r:List (Str×Addr))=>(if(x.2 == NameKind.free)=true then(do let a <-cellOf env x.1;pure (ForInStep.yield ((x.1,a)::r)))else pure (ForInStep.yield r):Sem (ForInStep (List (Str×Addr)))))=pure (vZ env.cells ns acc):=by
  intro ns
  induction ns with
  |nil=>intro acc _;rfl
  |cons y r e=>
   intro acc hy;obtain⟨n,k⟩:=y;rw[yd6];have hr:∀z∈r,z.2=.free->∃c,env.cells.lookup z.1=some c:=λz hz=>hy z (zY6 _ hz);by_cases hk:k=.free
   ·subst hk;obtain⟨c,d⟩:=hy (n,.free) zY9 rfl;have e1:cellOf env n=pure c:=by
     unfold cellOf;rw[d]
    have b:((NameKind.free == NameKind.free)=true):=rfl;simp only[b,yb2,e1,pure_bind];rw[e _ hr];show _=pure (vZ env.cells r (if NameKind.free=NameKind.free then(n,(env.cells.lookup n).getD 0)::acc else acc));rw[if_pos rfl,d];rfl
   ·have b:(k == NameKind.free)=false:=by simpa using hk
    simp only[b,z27,z73,pure_bind];rw[e _ hr];show _=pure (vZ env.cells r (if k=NameKind.free then(n,(env.cells.lookup n).getD 0)::acc else acc));rw[if_neg hk]
 have q:=key scope.names [] h;unfold closureFor;simp only[]at q ⊢;rw[show(forIn scope.names ([]:List (Str×Addr)) λ(x:Str×NameKind) (r:List (Str×Addr))=>_)=_ from q];rfl
theorem nC {cells:List (Str×Addr)}:∀(ns:List (Str×NameKind)) (acc:List (Str×Addr)),(∀y∈ns,y.2=.free->∃c,cells.lookup y.1=some c)->
  ∀x c,(x,c)∈vZ cells ns acc->(x,c)∈acc\/((x,NameKind.free)∈ns/\cells.lookup x=some c)
 |[],acc,_,x,c,h=>.inl h
 |(n,k)::r,acc,hy,x,c,h=>by
  have hr:∀z∈r,z.2=.free->∃c,cells.lookup z.1=some c:=λz hz=>hy z (zY6 _ hz);have h':(x,c)∈vZ cells r (if k=.free then(n,(cells.lookup n).getD 0)::acc else acc):=h;rcases nC r _ hr x c h' with q|⟨g,f⟩
  ·by_cases hk:k=.free
   ·rw[if_pos hk]at q;rcases zY4.mp q with e|q
    ·obtain⟨c',d⟩:=hy (n,k) zY9 hk;have e1:x=n:=congrArg Prod.fst e;have b:c=(cells.lookup n).getD 0:=congrArg Prod.snd e;have a:cells.lookup n=some c':=d;rw[a]at b;have i:c=c':=b;subst e1 i hk;exact .inr ⟨zY9,a⟩
    ·exact .inl q
   ·rw[if_neg hk]at q;exact .inl q
  ·exact .inr ⟨zY6 _ g,f⟩
theorem lA {cells:List (Str×Addr)}:∀(ns:List (Str×NameKind)) (acc:List (Str×Addr)) (p:Str×Addr),p∈acc->p∈vZ cells ns acc
 |[],_,_,h=>h
 |(n,k)::r,acc,p,h=>by
  show p∈vZ cells r (if k=.free then(n,(cells.lookup n).getD 0)::acc else acc);refine lA r _ p ?_;split
  ·exact zY6 _ h
  ·exact h
theorem nM {cells:List (Str×Addr)}:∀(ns:List (Str×NameKind)) (acc:List (Str×Addr)) (x:Str),(x,NameKind.free)∈ns->∃c,(x,c)∈vZ cells ns acc
 |[],_,_,h=>by simp at h
 |(n,k)::r,acc,x,h=>by
  show ∃c,(x,c)∈vZ cells r (if k=.free then(n,(cells.lookup n).getD 0)::acc else acc);rcases zY4.mp h with e|h
  ·have e1:x=n:=congrArg Prod.fst e;have a:NameKind.free=k:=congrArg Prod.snd e;subst e1 a;rw[if_pos rfl];exact⟨_,lA r _ _ zY9⟩
  ·exact nM r _ x h
theorem mem_lookup {x:Str}{c:Addr}:∀{l:List (Str×Addr)},(x,c)∈l->∃d,l.lookup x=some d
 |[],h=>by simp at h
 |(n,a)::r,h=>by
  rw[z42];cases e:x == n with
  |true=>exact⟨a,rfl⟩
  |false=>
   rcases zY4.mp h with q|q
   ·have e1:x=n:=congrArg Prod.fst q;rw[e1]at e;simp at e
   ·exact mem_lookup q
structure zM (XN:List Str)(xs:Scope)(N:List Str)(imp:List (Option Nat))(scope:Scope):Prop where
 kind:scope.kind=.function
 nd:N.Nodup
 nocell:∀y∈scope.names,y.2≠.cell
 locs:∀y∈scope.names,y.2=.local->scope.names.lookup y.1=some .local
 frees:∀y∈scope.names,y.2=.free->xs.names.lookup y.1=some .cell\/xs.names.lookup y.1=some .free
 len:imp.length=N.length
 impsB:((imp.zip N).all λp=>match p.1 with|none=>true|some j=>XN[j]? == some p.2&&scope.names.lookup p.2 == some .free)=true
theorem zM.imps {XN N:List Str}{xs scope:Scope}{imp:List (Option Nat)}(S:zM XN xs N imp scope):∀(i j:Nat),imp[i]?=some (some j)->∃x,N[i]?=some x/\XN[j]?=some x/\scope.names.lookup x=some .free:=by
 intro i j h;have hi:i<imp.length:=(zX9.mp h).1;have hn:i<N.length:=by rw[<-S.len];exact hi
 have b:N[i]?=some N[i]:=zY0 hn;have hm:(some j,N[i])∈imp.zip N:=by
  have hz:(imp.zip N)[i]?=some (some j,N[i]):=by
   rw[List.getElem?_zip_eq_some];exact⟨h,b⟩
  exact z23 hz
 have q:=ya8.mp S.impsB _ hm;have a:(XN[j]? == some N[i]&&scope.names.lookup N[i]==some .free)=true:=q;rw[z21]at a;exact⟨N[i],b,eq_of_beq a.1,eq_of_beq a.2⟩
def wa (imp:List (Option Nat))(σ:St):St:=imp.map λo=>o.bind λj=>(σ[j]?).bind id
theorem gY {imp:List (Option Nat)}{σ:St}{i:Nat}{v:V}(h:(wa imp σ)[i]?=some (some v)):∃j,imp[i]?=some (some j)/\σ[j]?=some (some v):=by
 unfold wa at h;rw[zZ1]at h;cases e:imp[i]? with
 |none=>rw[e]at h;cases h
 |some o=>
  rw[e]at h;have h':(o.bind λj=>(σ[j]?).bind id)=some v:=z07 h;cases o with
  |none=>cases h'
  |some j=>
   have a:(σ[j]?).bind id=some v:=h';cases e2:σ[j]? with
   |none=>rw[e2]at a;cases a
   |some w=>
    rw[e2]at a;have b:w=some v:=a;exact⟨j,rfl,by rw[e2,b]⟩
def Cx.comp (X:Cx)(N:List Str)(scope:Scope)(C:Addr)(s2:Shared)(a:Hp)(fp:List Addr):Cx where
 prog:=X.prog
 w:=X.w
 K:=X.K
 mg:=X.mg
 base:=X.base
 A:=X.A
 N:=N
 s₀:=s2
 H₀:=a
 env:=compEnvC scope (vZ X.env.cells scope.names []) C X.env
 outer:=X.stack
 stack:=X.stack
 ex:=fp
 fn:=λ_=>false
 calm:=X.calm
 pn:=[]
 xe:=λ_ _=>False
theorem uC {env:Env}:∀{names:List (Str×NameKind)}{x:Str},
  (names.map λ(n,k)=>if(k == NameKind.free&&env.scope.kind == .function&&env.kindOf n == some .cell)then(n,NameKind.cell)else(n,k)).lookup x=some .cell\/
  (names.map λ(n,k)=>if(k == NameKind.free&&env.scope.kind == .function&&env.kindOf n == some .cell)then(n,NameKind.cell)else(n,k)).lookup x=some .free->
  (∀y∈names,y.2≠.cell)->(x,NameKind.free)∈names
 |[],x,h,_=>by simp at h
 |(n,k)::r,x,h,hc=>by
  have f:=@uC env r x;rw[z03]at h;dsimp only at h;by_cases d:x=n
  ·subst d;by_cases hk:k=.free
   ·subst hk;exact zY9
   ·have a:(k == NameKind.free)=false:=by simpa using hk
    simp only[a,yb8,z27,z73,z42,beq_self_eq_true,yb2]at h;rcases h with h|h
    ·have e:k=.cell:=z07 h;exact absurd e (hc (x,k) zY9)
    ·have e:k=.free:=z07 h;exact absurd e hk
  ·have c:(x == n)=false:=by simpa using d
   have step:∀(b:Bool) (l:List (Str×NameKind)),List.lookup x ((if b=true then(n,NameKind.cell)else(n,k))::l)=l.lookup x:=λb l=>by
    cases b<;>simp[z42,c]
   rw[step]at h;exact zY6 _ (f h λy hy=>hc y (zY6 _ hy))
theorem tD {env:Env}:∀{names:List (Str×NameKind)}{x:Str},names.lookup x=some .free->
  (names.map λ(n,k)=>if(k == NameKind.free&&env.scope.kind == .function&&env.kindOf n == some .cell)then(n,NameKind.cell)else(n,k)).lookup x=some .cell\/
  (names.map λ(n,k)=>if(k == NameKind.free&&env.scope.kind == .function&&env.kindOf n == some .cell)then(n,NameKind.cell)else(n,k)).lookup x=some .free
 |[],x,h=>by simp at h
 |(n,k)::r,x,h=>by
  have a:=@tD env r x;rw[z03];dsimp only;rw[z42]at h;cases hx:x == n with
  |true=>
   rw[hx]at h;have e:k=.free:=z07 h;subst e;by_cases hb:(NameKind.free == NameKind.free&&env.scope.kind == .function&&env.kindOf n == some .cell)=true
   ·left;rw[if_pos hb];simp[z42,hx]
   ·right;rw[if_neg hb];simp[z42,hx]
  |false=>
   rw[hx]at h;have step:∀(b:Bool) (l:List (Str×NameKind)),List.lookup x ((if b=true then(n,NameKind.cell)else(n,k))::l)=l.lookup x:=λb l=>by
    cases b<;>simp[z42,hx]
   rw[step];exact a h
section
variable {X:Cx}{pins:List (Addr×Obj)}{σ:St}{H2 H':Hp}{s2 s':Shared}{fp:List Addr}{N:List Str}{imp:List (Option Nat)}{scope:Scope}{C acc:Addr}
theorem vV (I:Inv X pins σ H2 s2)(S:zM X.N X.env.scope N imp scope):∀y∈scope.names,y.2=.free->∃c,X.env.cells.lookup y.1=some c:=λy hy hk=>I.ok.has y.1 (S.frees y hy hk)
theorem xu (I:Inv X pins σ H2 s2)(S:zM X.N X.env.scope N imp scope){x:Str}{c:Addr}(h:(vZ X.env.cells scope.names []).lookup x=some c):(x,NameKind.free)∈scope.names/\X.env.cells.lookup x=some c:=by
 rcases nC scope.names [] (vV I S) x c (z47 h)with q|q
 ·exact absurd q (by simp)
 ·exact q
theorem ug (I:Inv X pins σ H2 s2)(S:zM X.N X.env.scope N imp scope){x:Str}(h:(x,NameKind.free)∈scope.names):∃c,(vZ X.env.cells scope.names []).lookup x=some c:=by
 obtain⟨c,a⟩:=nM (cells:=X.env.cells) scope.names [] x h;exact mem_lookup a
theorem aT {f:Heap}{tk:Nat}{m:Str->Option Value}{K:Nat}(I:Inv X pins σ H2 s2)(S:zM X.N X.env.scope N imp scope)(hf:∀b∈fp,xi X pins H2 b)(Y:∀b∈fp,∃o,s2.heap.get? b=some o)
  (a:acc=s2.heap.objs.size) (s:C=s2.heap.objs.size+1) (old:∀b o,s2.heap.get? b=some o->f.get? b=some o) (hn:f.Ns C m)
  (R:f.get? acc=some {cls:=.type "list",data:=.seq ([]:List Value).toArray K}):
  Inv (X.comp N scope C s2 H2 fp) [] (wa imp σ) (upd H2 acc (.lst [])) {s2 with heap:=f,toks:=tk}:=by
 have Z:H2 acc=none:=I.hok.fresh (by rw[a];exact zY1 _);have A:C≠acc:=by rw[s,a];exact Nat.succ_ne_self _
 have G:∀x c,X.env.cells.lookup x=some c->c<s2.heap.objs.size:=λx c e=>by
  obtain⟨v,q⟩:=I.cell x c e;exact q.lt
 refine⟨⟨I.ok.mod,S.kind,I.ok.glob,I.ok.blt,?above,?inj,?has,?cab,I.ok.hd,I.ok.frames,.inl rfl,?exf,λb o e=>I.bs b o e,zY8 I.ok.bsz I.sz,?noex,?exfs,I.stack,I.stkFree⟩,
  rfl,I.bare,Un.laid old (by rw[a];exact zY1 _) Z,⟨m,hn,?loc⟩,?cell,?free,?freeC,λp P=>absurd (show p∈([]:List (Addr×Obj))from P) (by simp),I.hok.laid old (by rw[a];exact zY1 _) ⟨zZ4 _,[],K,.nil,R⟩,?len⟩
 case above=>show s2.heap.objs.size<=C;rw[s];exact z64 _
 case inj=>exact λx y c f U=>I.ok.inj x y c (xu I S f).2 (xu I S U).2
 case has=>exact λx W=>ug I S (uC (env:=X.env) W S.nocell)
 case cab=>exact λx c h _=>absurd h (by show ¬(false=true);simp)
 case exf=>
  intro b hb;obtain⟨o,E⟩:=Y b hb;refine⟨?_,λx c e=>(hf b hb).2.2.2.2.1 x c (xu I S e).2⟩;show b≠C;rw[s];exact zZ7 (z89 (zY5 E))
 case noex=>
  intro b o e hb;rcases(hf b hb).2.2.2.1 with z|z
  ·exact I.ok.noex b o e z
  ·exact absurd (zX8 (zY5 e) (zY8 I.ok.bsz z)) (z33 _)
 case exfs=>
  intro b hb hz;rcases zY4.mp (I.stkSub b hz)with e|e
  ·exact(hf b hb).2.1 e
  ·exact(hf b hb).2.2.1 e
 case loc=>
  intro i x v e1 T e3;obtain⟨j,V,M⟩:=gY T;obtain⟨y,n1,O,H⟩:=S.imps i j V;have B:(X.comp N scope C s2 H2 fp).N[i]?=some y:=n1;rw[B]at e1;have F:y=x:=z07 e1;subst F;have g:=S.frees (y,.free) (z47 H) rfl;obtain⟨mX,Q,D⟩:=I.loc;obtain⟨u,r,l⟩:=D j y v O M (.inr g);refine⟨u,r,?_⟩;rcases l with⟨k,_⟩|⟨k,c,e,z⟩
  ·have L:X.env.scope.names.lookup y=some .local:=k;rcases g with z|z
   ·have n:X.env.scope.names.lookup y=some .cell:=z;rw[L]at n;cases n
   ·have n:X.env.scope.names.lookup y=some .free:=z;rw[L]at n;cases n
  ·obtain⟨d,hd⟩:=ug I S (z47 H);have hd2:=(xu I S hd).2;rw[e]at hd2;have t:c=d:=z07 hd2;subst t;exact .inr ⟨tD (env:=X.env) H,c,hd,z.keeps old⟩
 case cell=>
  intro x c e;obtain⟨v,q⟩:=I.cell x c (xu I S e).2;exact⟨v,q.keeps old⟩
 case free=>
  show upd H2 acc _ C=none;rw[zc A];exact I.hok.fresh (by rw[s];exact z64 _)
 case freeC=>
  intro x c e;have J:=(xu I S e).2;have w:=G x c J;show upd H2 acc _ c=none;rw[zc (by rw[a];exact zZ7 w)];exact I.freeC x c J
 case len=>
  show(wa imp σ).length=N.length;unfold wa;rw[zX7];exact S.len
theorem fj {pl:List (Addr×Obj)}{a:St}(I:Inv X pins σ H2 s2)(hf:∀b∈fp,xi X pins H2 b)(J:Inv (X.comp N scope C s2 H2 fp) pl a H' s'):Inv X pins σ H' s':=
 I.call' (ch:=fp) J.os J.base J.hok J.bare λb hb=>⟨(hf b hb).2.2.2.1,(hf b hb).2.1,(hf b hb).2.2.2.2.1,(hf b hb).2.2.2.2.2⟩
end
section
variable {prog:Program}{w:World}{A:Around}{R:Result->Shared->Prop}{s:Shared}
theorem pY {elt target iter:Expr}{ifs:List Expr}{scope:Scope}{pos:Pos}{it acc:Value}{env:Env}(I:Nat->Shared->Prop)
  (turn:∀n s,I n s->wpAny (model prog w) A (pyNext it) (λr s1=>match r with
   |none=>R (.ok .next) s1
   |some v=>wpAny (model prog w) A (letOwnedTupleGo target it v) (λ_ s2=>wpAny (model prog w) A (assign target env v) (λ_ s3=>
     wpAny (model prog w) A (forIn ifs true λc r=>if r=true then do let ok <-isTrue c env (eval c env);pure (ForInStep.yield ok)else pure (ForInStep.yield r)) (λok s4=>
      if ok=true then wpAny (model prog w) A (eval elt env) (λx s5=>
       wpAny (model prog w) A (call (.builtin "list.append") [acc,x]) (λ_ b=>∃m,m<n/\I m b) (λ_ _=>False) s5) (λ_ _=>False) s4
      else ∃m,m<n/\I m s4) (λ_ _=>False) s3) (λ_ _=>False) s2) (λ_ _=>False) s1) (λ_ _=>False) s)
  (n:Nat) (h:I n s):codeAny (model prog w) A (.compLoop (.ListComp elt [⟨target,iter,ifs,0⟩] scope pos) 0 it acc env) R s:=by
 refine codeAny_loop rfl I (λn s e=>?_) n h;show wpAny _ A ((compTurn (.ListComp elt [⟨target,iter,ifs,0⟩] scope pos) 0 it acc env).onRaise (λx=>do noteFrame x env;theTreesLotGoes x)) _ _ s;refine wpAny_noted ?_;rw[compTurn_list];refine zX5 (yd1 (zX5 (z26 (turn n s e) (λr s1 a=>?_) λ_ _ h'=>False.elim h')));cases r with
 |none=>exact zY3 a
 |some v=>
  refine zX5 (z26 a (λ_ s2 i=>?_) λ_ _ h'=>False.elim h');refine zX5 (z26 i (λ_ s3 j=>zX5 (z26 j (λok s4 d=>?_) λ_ _ h'=>False.elim h')) λ_ _ h'=>False.elim h');cases ok with
  |false=>exact zY3 ⟨rfl,d⟩
  |true=>
   exact zX5 (zX5 (z26 d (λx s5 f=>zX5 (z26 f (λ_ b g=>zY3 (zY3 ⟨rfl,g⟩)) λ_ _ h'=>False.elim h')) λ_ _ h'=>False.elim h'))
end
def vk (Y:Cx)(ifs:List Expr)(t:TT):Prop:=
 ∀(pins:List (Addr×Obj)) (s:Shared) (σ:St) (H:Hp) (Q:Bool->Hp->Prop),Inv Y pins σ H s->t σ H Q->
  wpAny (model Y.prog Y.w) Y.A (forIn ifs true λc r=>if r=true then do let ok <-isTrue c Y.env (eval c Y.env);pure (ForInStep.yield ok)else pure (ForInStep.yield r)) (TP Y pins σ Q) Y.xe s
def zW0 :TT:=λ_ H Q=>Q true H
theorem zn4 {Y:Cx}:vk Y [] zW0:=λ_ _ _ H _ I h=>wpAny_tests_nil ⟨H,I,h⟩
theorem jY {Y:Cx}{c:Expr}{t:TT}(h:PT Y c t):vk Y [c] t:=λpins s σ H Q I q=>wpAny_tests_one (h pins s σ H Q I q)
def oB (J:It)(acc:Addr)(g:TG)(tt:TT)(l:TE)(e:St)(H0:Hp)(Q:VK):Prop:=
 ∃W:Nat->Nat->List V->St->Hp->Prop,(∃m,W 0 m [] e H0)/\∀i m ys h b,W i m ys h b->
  (J.stop i b/\Q (.ref acc) b)\/(J.go i b/\∃N:List V->St->Hp->Prop,(∀d a H',N d a H'->∃f,f<m/\W (i+1) f d a H')/\
   ∀x H3,J.yld i b x H3->g x h H3 λτ2 n=>tt τ2 n λc j=>
    if c=true then l τ2 j λy k=>k acc=some (.lst ys)/\ys.length<sizeLine/\N (ys++[y]) τ2 (upd k acc (.lst (ys++[y])))else N ys τ2 j)
def aY (b:TI)(imp:List (Option Nat))(g:TG)(tt:TT)(a:TE):TE:=λσ H Q=>b σ H λJ H1=>∀acc,H1 acc=none->oB J acc g tt a (wa imp σ) (upd H1 acc (.lst [])) Q
section
variable {X:Cx}{pins:List (Addr×Obj)}{σ:St}{elt iter tg:Expr}{ifs:List Expr}{scope:Scope}{pos:Pos}{wi:TI}{g:TG}{tt:TT}{te:TE}{N:List Str}{imp:List (Option Nat)}
theorem sQ {c:Hp}{s2:Shared}{it:Addr}{fp:List Addr}{tn:Nat->Heap->Prop}{J:It}{RR:Value->Addr->Result->Shared->Prop}{E:Value->Shared->Prop}{Q:VK}
  (hc:X.calm=true) (S:zM X.N X.env.scope N imp scope) (hg:∀C s2 c fp,PG (X.comp N scope C s2 c fp) tg g) (ht:∀C s2 c fp,vk (X.comp N scope C s2 c fp) ifs tt) (he:∀C s2 c fp,PE (X.comp N scope C s2 c fp) elt te)
  (Z:Inv X pins σ c s2) (T:Turn X.prog X.w X.K tg J fp it tn) (G:tn 0 s2.heap) (f2:∀b∈fp,xi X pins c b)
  (hW:∀acc,c acc=none->oB J acc g tt te (wa imp σ) (upd c acc (.lst [])) Q)
  (a4:∀a C H' s' m,Inv X pins σ H' s'->s'.heap.Ns C m->xi X pins H' C->Q (.ref a) H'->RR (.ref a) C (.ok .next) s'):
  wpAny (model X.prog X.w) X.A (newList []) (λacc s3=>wpAny (model X.prog X.w) X.A (newFunctionEnv scope X.env.globals (vZ X.env.cells scope.names []) [] X.env.qual none .none (some X.env)) (λt s4=>
   codeAny (model X.prog X.w) X.A (.compStart (.ListComp elt [⟨tg,iter,ifs,0⟩] scope pos) 0 (.ref it) acc {t with scope:=relabel scope X.env}) (RR acc t.locals) s4) E s3) E s2:=by
 refine wpAny_newObj_type (wpAny_newFunctionEnv S.nocell (by intro y hy;simp at hy) (λY k h=>?_) S.kind);dsimp only at k h ⊢;generalize F:s2.heap.push {cls:=.type "list",dict:=none,data:=.seq ([]:List Value).toArray}=HH at k h ⊢;have O:HH.objs.size=s2.heap.objs.size+1:=by rw[<-F,z54]
 have U:s2.heap.objs.size≠HH.objs.size:=by rw[O];exact zZ7 (z52 _)
 have old:∀b o,s2.heap.get? b=some o->Y.get? b=some o:=λb o e=>h.extBut b o (by rw[O];exact zZ7 (z89 (zY5 e))) (zX6 _ (F▸zX6 _ e));have M:Y.get? s2.heap.objs.size=some {cls:=.type "list",data:=.seq ([]:List Value).toArray}:=h.extBut _ _ U (zX6 _ (F▸zY7 _ rfl));obtain⟨W,⟨m0,w0⟩,turn⟩:=hW s2.heap.objs.size Z.fresh;generalize b7:HH.objs.size=C at k h O U ⊢;have ho:∀b∈fp,∃o,s2.heap.get? b=some o:=λb hb=>let⟨o,e,_⟩:=T.obj 0 _ G b hb;⟨o,e⟩;generalize f:s2.heap.objs.size=acc at *;have loop:∀s3:Shared,s3={s2 with heap:=Y,toks:=s2.toks+([]:List (Str×Value)).length}->
   codeAny (model X.prog X.w) X.A (.compLoop (.ListComp elt [⟨tg,iter,ifs,0⟩] scope pos) 0 (.ref it) (.ref acc) (X.comp N scope C s2 c fp).env) (RR (.ref acc) C) s3:=by
  rintro s3 rfl;have I3:Inv (X.comp N scope C s2 c fp) [] (wa imp σ) (upd c acc (.lst [])) {s2 with heap:=Y,toks:=s2.toks+([]:List (Str×Value)).length}:=
   aT Z S f2 ho f.symm (by rw[O,f]) old k M
  have a0:∀b∈fp,upd c acc (.lst []) b=none:=λb hb=>by
   obtain⟨o,e⟩:=ho b hb;rw[zc (by rw[<-f];exact zZ7 (zY5 e))];exact(f2 b hb).1
  have l:∀{H':Hp},(∀b∈fp,H' b=none)->∀b∈fp,xi (X.comp N scope C s2 c fp) [] H' b:=λhn b hb=>by
   obtain⟨e1,e2⟩:=I3.ok.exf b hb;exact⟨hn b hb,e1,I3.ok.exfs b hb,.inl hb,e2,λp hp=>absurd (show p∈([]:List (Addr×Obj))from hp) (by simp)⟩
  refine pY (λn s'=>∃i ys q H',Inv (X.comp N scope C s2 c fp) [] q H' s'/\tn i s'.heap/\(∀b∈fp,H' b=none)/\W i n ys q H') ?_ m0
   ⟨0,[],_,_,I3,T.keep _ _ _ G λb _ o e=>old b o e,a0,w0⟩
  rintro n s4 ⟨i,ys,q,H4,I4,I,R,w4⟩;rcases turn i n ys q H4 w4 with⟨stop,qn⟩|⟨go,NN,hN,step⟩
  ·refine z26 (T.done (X.comp N scope C s2 c fp) rfl rfl rfl hc i [] s4 q H4 (λ_ _=>False) I4 (l R) I stop) (λr s5 a2=>?_) λ_ _ z=>z;obtain⟨hr,I5⟩:=a2;subst hr;obtain⟨m5,a1,_⟩:=id I5.loc;exact a4 acc C H4 s5 m5 (fj Z f2 I5) a1 (Z.fpOk (by rw[O,f];exact z64 _) I5.free) qn
  ·refine z26 (T.item (X.comp N scope C s2 c fp) rfl rfl rfl hc i [] s4 q H4 (λ_ _=>False) I4 (l R) I go) (λr s5 b2=>?_) λ_ _ z=>z;obtain⟨u,hr,h5⟩:=b2;subst hr;refine z26 h5 (λ_ s6 a5=>?_) λ_ _ z=>z;obtain⟨x,H6,I6,r6,y6,D,b3⟩:=a5;have a3:=I6.pinned (l b3) (T.obj _ _ D);refine z26 (hg C s2 c fp _ s6 q H6 x u _ a3 r6 (step x H6 y6)) (λ_ s7 a7=>?_) λ_ _ z=>z;obtain⟨j,H7,I7,q7⟩:=a7;refine z26 (ht C s2 c fp _ s7 j H7 _ I7 q7) (λok s8 b5=>?_) λ_ _ z=>z;obtain⟨H8,I8,q8⟩:=b5;have again:∀{s:List V} {B:Hp} {H:Shared},Inv (X.comp N scope C s2 c fp) ([]++sP fp s6.heap) j B H->NN s j B->∃m,m<n/\∃i ys q H',Inv (X.comp N scope C s2 c fp) [] q H' H/\tn i H.heap/\(∀b∈fp,H' b=none)/\W i m ys q H':=λ{s B H} L n9=>by
    obtain⟨m',hm,w9⟩:=hN s j B n9;refine⟨m',hm,i+1,s,j,B,L.unpinned,T.keep _ _ _ D λb hb o e=>(L.pin (b,o) (z05 _ (z05 _ (wD hb e)))).1,λb hb=>?_,w9⟩;obtain⟨o,e,d⟩:=T.obj _ _ D b hb;exact(L.pin (b,o) (z05 _ (z05 _ (wD hb e)))).2.1
   cases ok with
   |false=>
    have a6:NN ys j H8:=by
     have z:=q8;rw[if_neg z04]at z;exact z
    rw[if_neg z04];exact again I8 a6
   |true=>
    rw[if_pos rfl]at q8 ⊢;refine z26 (he C s2 c fp _ s8 j H8 _ I8 q8) (λv H b1=>?_) λ_ _ z=>z;obtain⟨y,B,L,r9,a9,z9,q9⟩:=b1;refine z26 (qW (X:=X.comp N scope C s2 c fp) _ H j B (.ref acc) [y] (.ref acc) [v] (λ_ P=>P=upd B acc (.lst (ys++[y]))) L rfl (.cons r9 .nil) ⟨acc,ys,y,rfl,rfl,a9,z9,rfl⟩) (λ_ b6 b4=>?_) λ_ _ z=>z;obtain⟨_,P,b0,_,a8⟩:=b4;subst a8;exact again b0 q9
 exact codeAny_compStart_list (loop _ rfl) (T.self X.A 0 _ _ _ (T.keep _ _ _ G λb _ o e=>old b o e) (loop _ rfl))
theorem zx6 (y:X.calm=true)(S:zM X.N X.env.scope N imp scope)(hi:PI X tg iter wi)(hg:∀C s2 c fp,PG (X.comp N scope C s2 c fp) tg g)(n:∀C s2 c fp,vk (X.comp N scope C s2 c fp) ifs tt)
  (he:∀C s2 c fp,PE (X.comp N scope C s2 c fp) elt te) (B:∀x,foldedSetIterable iter X.env x=pure x:=by intro _;rfl):
  PE X (.ListComp elt [⟨tg,iter,ifs,0⟩] scope pos) (aY wi imp g tt te):=by
 intro pins s σ H Q I h;rw[eval_ListComp];refine wpAny_comprehension_free (use:=none) rfl B (vN (vV I S)) S.kind S.locs (thn (hi pins s σ H _ I h) λv s1 l=>thn l λz s2 u=>?_);obtain⟨it,fp,tn,J,c,e,r,T,d,f2,hW⟩:=u;subst e;refine sQ (RR:=λacc C=>compPost (model X.prog X.w) X.A X.xe none (EP X pins σ Q) acc C) y S hg n he r T d f2 hW λa C H' s' m p hn f q=>?_;refine⟨m,hn,λh' i=>?_⟩;obtain⟨k,g1,g2,g3,t,j⟩:=f;exact⟨.ref a,H',p.turned (t':=s'.toks) (it:=C) (λb o hb e=>(i.2 b hb).trans e) k g1 g3 t j,rfl,q⟩
theorem lM {i:Nat}{x:Str}{px:Pos}{c:Pos}(M:X.calm=true)(S:zM X.N X.env.scope N imp scope)(hi:PI X tg iter wi)(hg:∀C s2 d fp,PG (X.comp N scope C s2 d fp) tg g)(B:∀C s2 d fp,vk (X.comp N scope C s2 d fp) ifs tt)
  (he:∀C s2 d fp,PE (X.comp N scope C s2 d fp) elt te) (K:X.N.Nodup) (O:X.N[i]?=some x) (G:Loc X.env.scope x) (p:swapsWith (.ListComp elt [⟨tg,iter,ifs,0⟩] scope pos) (some (.Name x px)) c.line X.env=pure true:=by rfl)
  (hf:X.fn x=true\/X.env.scope.names.lookup x=some .local:=by first|exact .inl rfl|exact .inr rfl|assumption) (U:∀x,foldedSetIterable iter X.env x=pure x:=by intro _;rfl):
  PS X (.Assign [.Name x px] (.ListComp elt [⟨tg,iter,ifs,0⟩] scope pos) c) (zJ2 (aY wi imp g tt te) (sN i)):=by
 intro pins s σ H D I h;rw[exec_Assign_Name_used _ _ _ _ p];refine zX5 (yd1 (zX5 ?_));show wpAny _ X.A (do let _ <-comprehension (.ListComp elt [⟨tg,iter,ifs,0⟩] scope pos) scope X.env _ (newList []) false (eval iter X.env) (some (assign (.Name x px) X.env))) _ _ s;refine zX5 (z26 (wpAny_comprehension_free (use:=some (assign (.Name x px) X.env)) (Q:=λ_ s'=>SP X pins D .next s') rfl U (vN (vV I S)) S.kind S.locs (thn (hi pins s σ H _ I h) λv s1 z=>thn z λP s2 L=>?_))
  (λ_ s' hq=>zY3 (zY3 hq)) λ_ _ e=>e)
 obtain⟨it,fp,tn,J,d,e,F,T,k,f2,hW⟩:=L;subst e;refine sQ (Q:=λx H1=>sN i x σ H1 D.nx) (RR:=λacc C=>compPost (model X.prog X.w) X.A X.xe (some (assign (.Name x px) X.env)) (λ_ s'=>SP X pins D .next s') acc C) M S hg B he F T k f2 hW λa C H' s' m E hn f q=>?_;show wpAny _ X.A (assign (.Name x px) X.env (.ref a)) _ _ _;obtain⟨y,g1,g2,g3,r,u⟩:=f;refine wpAny_assign_Name (qK E K O G (show RelV (.ref a) (.ref a)from rfl) (λs4 R j=>?_) hf);obtain⟨ad,t,had⟩:=j;have l:C≠ad:=by
  rcases had with e|e
  ·rw[e];exact g1
  ·exact(r x ad e).symm
 refine⟨m,hn.sameBut t l,λh' n=>?_⟩;exact⟨_,H',R.turned (t':=s4.toks) (it:=C) (λb o hb e=>(n.2 b hb).trans e) y g1 g3 r u,q⟩
end
mutual
inductive DV (H:Hp):V->PyData->Prop where
 |non:DV H .non .none
 |bl (b:Bool):DV H (.bl b) (.bool b)
 |int (i:Int):DV H (.int i) (.int i)
 |str (x:Str):DV H (.str x) (.str x)
 |lst {a:Addr}{xs:List V}{ds:List PyData}:H a=some (.lst xs)->DVs H xs ds->DV H (.ref a) (.list ds)
 |tup {a:Addr}{xs:List V}{ds:List PyData}:H a=some (.tup xs)->DVs H xs ds->DV H (.ref a) (.tuple ds)
inductive DVs (H:Hp):List V->List PyData->Prop where
 |nil:DVs H [] []
 |cons {x:V}{xs:List V}{d:PyData}{ds:List PyData}:DV H x d->DVs H xs ds->DVs H (x::xs) (d::ds)
end
theorem zF8 {H:Hp}{m1:V->PyData->Prop}{m2:List V->List PyData->Prop}(c:m1 .non .none)(n:∀b,m1 (.bl b) (.bool b))(e:∀i,m1 (.int i) (.int i))(f:∀x,m1 (.str x) (.str x))
  (o:∀{a:Addr} {xs:List V} {ds:List PyData},H a=some (.lst xs)->m2 xs ds->m1 (.ref a) (.list ds)) (p:∀{a:Addr} {xs:List V} {ds:List PyData},H a=some (.tup xs)->m2 xs ds->m1 (.ref a) (.tuple ds)) (k:m2 [] []) (k2:∀{x:V} {xs:List V} {d:PyData} {ds:List PyData},m1 x d->m2 xs ds->m2 (x::xs) (d::ds)):
  (∀x d,DV H x d->m1 x d)/\∀xs ds,DVs H xs ds->m2 xs ds:=by
 let l:=λx d (_:DV H x d)=>m1 x d
 let M2:=λx d (_:DVs H x d)=>m2 x d
 have m:=λ{a} {xs} {ds} (q:H a=some (.lst xs)) (_:DVs H xs ds) (z:m2 xs ds)=>o (a:=a) q z;have g:=λ{a} {xs} {ds} (q:H a=some (.tup xs)) (_:DVs H xs ds) (z:m2 xs ds)=>p (a:=a) q z;have j:=λ{x} {xs} {d} {ds} (_:DV H x d) (_:DVs H xs ds) (y:m1 x d) (z:m2 xs ds)=>k2 y z;exact⟨λ_ _ h=>@DV.rec H l M2 c n e f m g k j _ _ h,λ_ _ h=>@DVs.rec H l M2 c n e f m g k j _ _ h⟩
theorem DVs.ind {H:Hp}{motive:(xs:List V)->(ds:List PyData)->DVs H xs ds->Prop}(nil:motive [] [] .nil)(cons:∀{x:V}{xs:List V}{d:PyData}{ds:List PyData} (a:DV H x d) (r:DVs H xs ds),motive xs ds r->motive (x::xs) (d::ds) (.cons a r)){xs:List V}{ds:List PyData}(h:DVs H xs ds):motive xs ds h:=
 ((zF8 (m1:=DV H) (m2:=λxs ds=>∃h:DVs H xs ds,motive xs ds h) .non .bl .int .str (λq z=>.lst q z.1) (λq z=>.tup q z.1) ⟨.nil,nil⟩ (λa z=>⟨.cons a z.1,cons a z.1 z.2⟩)).2 _ _ h).2
section
variable {X:Cx}{pins:List (Addr×Obj)}{σ:St}{H:Hp}{s:Shared}
theorem zl4 (I:Inv X pins σ H s):(∀x d,DV H x d->∀u,RelV x u->∃as,Reads s.heap u d as)/\∀xs ds,DVs H xs ds->∀us,Vals xs us->∃as,ReadsAll s.heap us ds as:=by
 refine zF8 (m1:=λx d=>∀u,RelV x u->∃as,Reads s.heap u d as) (m2:=λxs ds=>∀us,Vals xs us->∃as,ReadsAll s.heap us ds as) ?_ ?_ ?_ ?_ ?_ ?_ ?_ ?_
 ·intro u r;cases(show u=Value.none from r);exact⟨_,.none⟩
 ·intro b u r;cases(show u=Value.bool b from r);exact⟨_,.bool b⟩
 ·intro i u r;obtain⟨t,rfl⟩:=(show ∃t,u=Value.int i t from r);exact⟨_,.int i t⟩
 ·intro x u r;obtain⟨t,rfl⟩:=(show ∃t,u=Value.str x t from r);exact⟨_,.str x t⟩
 ·intro a xs ds hq e u r;cases(show u=Value.ref a from r);obtain⟨its,g,p,hz⟩:=I.list (SqL.of hq);obtain⟨o,j,f,n,hd⟩:=p.isList;obtain⟨as,c⟩:=e _ g;exact⟨_,.list j f hd (by simpa using c)⟩
 ·intro a xs ds hq e u r;cases(show u=Value.ref a from r);obtain⟨its,g,p,hz⟩:=I.tuple (SqT.of hq);obtain⟨o,j,f,n,hd⟩:=p;obtain⟨as,c⟩:=e _ g;exact⟨_,.tuple j f hd (by simpa using c)⟩
 ·intro us r;cases r;exact⟨_,.nil⟩
 ·intro x xs d ds h e us r;cases r with
  |cons r rs=>
   obtain⟨as,c⟩:=h _ r;obtain⟨bs,k⟩:=e _ rs;exact⟨_,.cons c k⟩
theorem DV.reads (I:Inv X pins σ H s){x:V}{d:PyData}{u:Value}(h:DV H x d)(r:RelV x u):∃as,Reads s.heap u d as:=(zl4 I).1 _ _ h _ r
end
theorem zb9 {H H':Hp}(e:zw H H'):(∀x d,DV H x d->DV H' x d)/\∀xs ds,DVs H xs ds->DVs H' xs ds:=zF8 .non .bl .int .str (λq=>.lst (e _ _ q)) (λq=>.tup (e _ _ q)) .nil .cons
theorem DV.same {H H':Hp}(e:zw H H'){x:V}{d:PyData}(h:DV H x d):DV H' x d:=(zb9 e).1 _ _ h
theorem DVs.same {H H':Hp}(e:zw H H'){xs:List V}{ds:List PyData}(h:DVs H xs ds):DVs H' xs ds:=(zb9 e).2 _ _ h
theorem DVs.length {H:Hp}{xs:List V}{ds:List PyData}(h:DVs H xs ds):xs.length=ds.length:=h.ind (motive:=λxs ds _=>xs.length=ds.length) rfl λ_ _ z=>congrArg (·+1) z
def tyD :PyData->String
 |.none=>"NoneType"
 |.bool _=>"bool"
 |.int _=>"int"
 |.str _=>"str"
 |.list _=>"list"
 |.tuple _=>"tuple"
 |.dict _=>"dict"
theorem DV.ty {K:PySem.W.Frag}{H:Hp}{x:V}{d:PyData}(h:DV H x d):uz K H x (.type (tyD d)):=by
 cases h with
 |non=>exact .non
 |bl b=>exact .bl b
 |int i=>exact .int i
 |str x=>exact .str x
 |lst e _=>exact .lst e
 |tup e _=>exact .tup e
def isInt :PyData->Bool
 |.int _=>true
 |.bool _=>true
 |_=>false
def isBool :PyData->Bool
 |.bool _=>true
 |_=>false
def isStr :PyData->Bool
 |.str _=>true
 |_=>false
def isList :PyData->Bool
 |.list _=>true
 |_=>false
def zo4 :PyData->Bool
 |.tuple _=>true
 |_=>false
def zg0 (T:String)(d:PyData):Option Bool:=
 if T="int" then some (isInt d)else if T="bool" then some (isBool d)else if T="str" then some (isStr d)else if T="list" then some (isList d)else if T="tuple" then some (zo4 d)else none
def zE4 (t T:String):Option Bool:=if(Value.type t == Value.type T)=true then some true else if PySem.W.kitMeta T=true then(fastBuiltinMro t).map (·.contains (Value.type T))else none
theorem ze2 (K:PySem.W.Frag)(t T:String):PySem.W.kitOne K (.type t) (.type T)=zE4 t T:=rfl
theorem bj :(["NoneType","bool","int","str","list","tuple"].all λt=>["int","bool","str","list","tuple"].all λT=>
  zE4 t T == some (if T="int" then t == "int"||t == "bool" else t == T))=true:=by decide +kernel
theorem zP0 (K:PySem.W.Frag){H:Hp}{x:V}{d:PyData}(h:DV H x d){T:String}{b:Bool}(e:zg0 T d=some b):PySem.W.kitOne K (.type (tyD d)) (.type T)=some b:=by
 rw[ze2];have key:∀t∈["NoneType","bool","int","str","list","tuple"],∀T∈["int","bool","str","list","tuple"],zE4 t T=some (if T="int" then t == "int"||t == "bool" else t == T):=λt c T hT=>
  eq_of_beq (ya8.mp (ya8.mp bj t c) T hT)
 have hd:tyD d∈["NoneType","bool","int","str","list","tuple"]:=by cases h<;>simp[tyD]
 unfold zg0 at e;split at e
 ·rename_i a;subst a;rw[key _ hd "int" (by decide)];cases e;cases h<;>rfl
 ·split at e
  ·rename_i a;subst a;rw[key _ hd "bool" (by decide)];cases e;cases h<;>rfl
  ·split at e
   ·rename_i a;subst a;rw[key _ hd "str" (by decide)];cases e;cases h<;>rfl
   ·split at e
    ·rename_i a;subst a;rw[key _ hd "list" (by decide)];cases e;cases h<;>rfl
    ·split at e
     ·rename_i a;subst a;rw[key _ hd "tuple" (by decide)];cases e;cases h<;>rfl
     ·cases e
section
variable {X:Cx}
def zP3 :R2:=λx y H Q=>∃d e,DV H x d/\DV H y e/\SeqAt.shaped d=true/\SeqAt.shaped e=true/\Q (.bl (PyData.eqv d e)) H
def zO7 :R2:=λx y H Q=>∃d e,DV H x d/\DV H y e/\SeqAt.shaped d=true/\SeqAt.shaped e=true/\Q (.bl (!PyData.eqv d e)) H
theorem zI3 (b:X.A.units+64<cLine):OpR X (compareOp .Eq) zP3:=by
 intro pins s σ H x y v u Q I c a h;obtain⟨d,e,hd,he,f,g,q⟩:=h;obtain⟨as,i⟩:=hd.reads I c;obtain⟨bs,j⟩:=he.reads I a;exact SeqAt.compareEq_shaped i j f g b ⟨.bl _,H,I,rfl,q⟩
theorem zA3 (b:X.A.units+64<cLine):OpR X (compareOp .NotEq) zO7:=by
 intro pins s σ H x y v u Q I c a h;obtain⟨d,e,hd,he,f,g,q⟩:=h;obtain⟨as,i⟩:=hd.reads I c;obtain⟨bs,j⟩:=he.reads I a;exact SeqAt.compareNe_shaped i j f g b ⟨.bl _,H,I,rfl,q⟩
theorem bE :yI X (.builtin "isinstance") (λxs H Q=>∃x T t b,xs=[x,.ty T]/\uz X.K H x t/\PySem.W.kitOne X.K t (.type T)=some b/\Q (.bl b) H):=by
 intro pins s σ H xs us Q I r h;obtain⟨x,T,t,b,rfl,ty,e,q⟩:=h;obtain⟨u,v,rfl,c,a⟩:=Vals.two r;cases(show v=Value.type T from a);exact gR I c ty e λtk=>⟨.bl b,H,I.tok tk,rfl,q⟩
theorem fL :yI X (.builtin "isinstance") (λxs H Q=>∃x T d b,xs=[x,.ty T]/\DV H x d/\zg0 T d=some b/\Q (.bl b) H):=by
 intro pins s σ H xs us Q I r h;obtain⟨x,T,d,b,e,hd,a,q⟩:=h;exact bE pins s σ H xs us Q I r ⟨x,T,_,b,e,hd.ty,zP0 X.K hd a,q⟩
def zO5 (i j:Int):Prop:=0<j/\j.natAbs.log2<9000
theorem rF :OpR X (binaryOp .FloorDiv) (rI zO5 λi j=>.int (i / j)):=opI λi j _ _ _ _ _ a q=>by
 have b:(0:Int)<j:=a.1;refine floordiv_int (yh1 b) ?_ (.inl (PyProof.noPylong_of_log2 a.2));rw[Int.fdiv_eq_ediv_of_nonneg _ (Int.le_of_lt b)];exact q
abbrev big :Int:=115792089237316195423570985008687907853269984665640564039457584007913129639936
theorem log2_small {j:Int}(h0:0<j)(h:j<big):j.natAbs.log2<9000:=by
 have hn:j.natAbs≠0:=by lia
 have a:j.natAbs<2 ^ 256:=by
  have e:(2:Nat) ^ 256=115792089237316195423570985008687907853269984665640564039457584007913129639936:=by decide +kernel
  rw[e];unfold big at h
  lia
 have b:j.natAbs.log2<256:=(Nat.log2_lt hn).mpr a
 lia
theorem mW :yI X (.type "range") (λxs H Q=>∃i j:Int,xs=[.int i,.int j]/\∀p,H p=none->Q (.ref p) (upd H p (.rng i j))):=by
 intro pins s σ H xs us Q I r h;obtain⟨i,j,rfl,q⟩:=h;obtain⟨u,v,rfl,⟨t,rfl⟩,⟨t',rfl⟩⟩:=Vals.two r;refine call_range_2 ⟨.ref s.heap.objs.size,_,I.laid (o:=.rng i j) (λb u e=>zX6 _ e) (zY1 _) ⟨t,t',s.toks,zY7 _ rfl⟩,rfl,q _ (I.hok.fresh (zY1 _))⟩
def zx (lo:Int)(n:Nat):List Int:=(List.range n).map λi=>lo+(i:Nat)
theorem zk (lo:Int)(n:Nat):(zx lo n).length=n:=by simp[zx]
theorem yo {lo:Int}{n i:Nat}(h:i<n):(zx lo n)[i]?=some (lo+(i:Nat)):=by simp[zx,h]
theorem qh {lo:Int}{n:Nat}{acc:Array Value}(h:ItemsOf (λi v=>∃t,v=.int (lo+i*1) t) acc n):Vals ((zx lo n).map V.int) acc.toList:=by
 obtain⟨d,e⟩:=h;have key:∀(xs:List V) (us:List Value),xs.length=us.length->(∀(i:Nat) (x:V) (u:Value),xs[i]?=some x->us[i]?=some u->RelV x u)->Vals xs us:=by
  intro xs
  induction xs with
  |nil=>intro us a _;cases us with|nil=>exact .nil|cons _ _=>simp at a
  |cons x xs g=>
   intro us a hr;cases us with
   |nil=>simp at a
   |cons u us=>exact .cons (hr 0 x u rfl rfl) (g us (by simpa using a) λi k j e1 b=>hr (i+1) k j (by simpa using e1) (by simpa using b))
 refine key _ _ ?_ λi x u e1 b=>?_
 ·rw[zX7,zk];simp[d]
 ·rw[zZ1]at e1;have hi:i<n:=by
   have:=(zX9.mp b).1;simp[d]at this;exact this
  rw[yo hi]at e1;have c:V.int (lo+(i:Nat))=x:=z07 e1;subst c;obtain⟨t,f⟩:=e i u (by simpa using b);refine⟨t,?_⟩;rw[f,Int.mul_one]
theorem qq (k:X.calm=true):yI X (.type "list") (λxs H Q=>∃(p:Addr) (lo hi:Int),xs=[.ref p]/\H p=some (.rng lo hi)/\(-(2 ^ 62)<=lo/\lo<2 ^ 62/\-(2 ^ 62)<=hi/\hi<2 ^ 62)/\(hi-lo).toNat<=sizeLine/\(hi-lo).toNat<=2 ^ 24/\
  ∀l,H l=none->Q (.ref l) (upd H l (.lst ((zx lo (hi-lo).toNat).map V.int)))):=by
 intro pins s σ H xs us Q I r h;obtain⟨p,lo,hi,rfl,g,⟨c,i,d,f⟩,hz,b,q⟩:=h;obtain⟨u,rfl,v⟩:=Vals.one r;cases(show u=Value.ref p from v);obtain⟨t,t',m,e⟩:=(show zA X.prog X.w H s.heap p (.rng lo hi)from I.hok p _ g);refine call_list_range (I.ok.hd k) e (small_one c i d f) (n:=(hi-lo).toNat) (by rw[rangeSize_one];split<;>lia) b λh' tk a c' hk j hit=>?_;refine⟨.ref s.heap.objs.size,_,I.laid (o:=.lst ((zx lo (hi-lo).toNat).map V.int)) (t':=tk) hk (zY1 _) ⟨by rw[zX7,zk];exact hz,a.toList,c',qh hit,by simpa using j⟩,rfl,q _ (I.hok.fresh (zY1 _))⟩
theorem nA {bs:List Bool}:∀{us:List Value},Vals (bs.map V.bl) us->LSm.BoolsAre us bs:=by
 induction bs with
 |nil=>intro us h;cases h;exact .nil
 |cons b bs c=>
  intro us h;cases h with
  |cons r a=>
   cases(show _=Value.bool b from r);exact .cons b (c a)
end
def ja (X:Cx)(body:List Stmt):TS:=λD σ H=>∃t,PSs X body t/\t D σ H
theorem zE {X:Cx}{body:List Stmt}:PSs X body (ja X body):=λpins s σ H D I ⟨t,p,q⟩=>p pins s σ H D I q
theorem xl {X:Cx}{st:Stmt}{rest:List Stmt}{D:Ends}{σ:St}{H:Hp}(M:St->Hp->Prop)(g:∃t,PS X st t/\t {D with nx:=M} σ H)(k:∀a H',M a H'->∃t,PSs X rest t/\t D a H'):
  ∃t,PSs X (st::rest) t/\t D σ H:=by
 obtain⟨t1,p1,l⟩:=g;refine⟨λc a H'=>c=D/\a=σ/\H'=H,?_,rfl,rfl,rfl⟩;intro pins s a H' c I h;obtain⟨e1,j,n⟩:=h;subst e1 j n;have step:PSs X (st::rest) (zO0 t1 λd σ2 b=>d=c/\M σ2 b):=zy p1 λpins s σ2 b d i ⟨e,m⟩=>by
  subst e;obtain⟨t2,p2,f⟩:=k σ2 b m;exact p2 pins s σ2 b _ i f
 refine step pins s _ _ _ I ?_;show t1 {c with nx:=λσ2 b=>c=c/\M σ2 b} _ _;have e:(λ(σ2:St) (b:Hp)=>c=c/\M σ2 b)=M:=by
  funext σ2 b
  exact propext ⟨λz=>z.2,λz=>⟨rfl,z⟩⟩
 rw[e];exact l
theorem fV {K:PySem.W.Frag}{a acc:Addr}{xs:List V}{g:TG}{tt:TT}{h:TE}{Q:VK}{f:St}{H0:Hp}(Pv:Nat->List V->St->Hp->Prop)(h0:Pv 0 [] f H0)(o:∀i ys b H,i<=xs.length->Pv i ys b H->SqL K H a xs)
  (s:∀i x ys b H,xs[i]?=some x->Pv i ys b H->g x b H λτ2 t=>tt τ2 t λc k=>
   if c=true then h τ2 k λy j=>j acc=some (.lst ys)/\ys.length<sizeLine/\Pv (i+1) (ys++[y]) τ2 (upd j acc (.lst (ys++[y])))else Pv (i+1) ys τ2 k)
  (hd:∀ys b H,Pv xs.length ys b H->Q (.ref acc) H):
  oB (Itl K a) acc g tt h f H0 Q:=by
 refine⟨λi m ys b H=>m=xs.length-i/\i<=xs.length/\Pv i ys b H,⟨xs.length,by simp,zZ4 _,h0⟩,?_⟩;rintro i m ys b H ⟨rfl,hi,p⟩;have q:=o i ys b H hi p;by_cases d:i<xs.length
 ·refine .inr ⟨⟨xs,xs[i],q,by simp[d]⟩,Pv (i+1),λn l H' r=>⟨xs.length-(i+1),by omega,rfl,d,r⟩,λx H' y=>?_⟩;obtain⟨e,y⟩:=y;subst e;exact s i x ys b _ (y xs q) p
 ·have e:i=xs.length:=by omega
  subst e;exact .inl ⟨⟨xs,q,zY1 _⟩,hd ys b H p⟩
theorem at0 {α:Type}{x:α}{xs:List α}:atI (x::xs) 0=some x:=vv (j:=0) rfl
theorem ix0 {α:Type}{x:α}{xs:List α}:ixN (x::xs).length 0=some 0:=by
 unfold ixN;rw[if_pos (ya6 _),if_pos (by rw[z00];omega)];rfl
theorem zV3 {α:Type}{x:α}{xs:List α}:seqIndex? 0 (x::xs).length=some 0:=(oQ ix0).1
theorem cn (ns:List Int)(lo hi:Option Int):∃ms:List Int,nY (ns.map V.int) lo hi=ms.map V.int/\ms.length<=ns.length:=by
 refine⟨(ns.drop (HT.sIx (ns.map V.int).length 0 lo)).take (HT.sIx (ns.map V.int).length (ns.map V.int).length hi-HT.sIx (ns.map V.int).length 0 lo),?_,?_⟩
 ·unfold nY;rw[List.map_take,List.map_drop]
 ·rw[z46,yg5];omega
structure yx (H:Hp)(t b c:Addr):Prop where
 ex:∃(n:Int) (bs cs:List Int),b≠c/\H t=some (.lst [.ref b,.ref c,.int n])/\H b=some (.lst (bs.map V.int))/\H c=some (.lst (cs.map V.int))/\bs.length<=63/\cs.length<=63
theorem iJ {b c:Addr}{n:Int}(bs:List Int):HO.lst [.ref b,.ref c,.int n]≠HO.lst (bs.map V.int):=by
 intro z;injection z with z;cases bs with
 |nil=>cases z
 |cons x r=>cases z
def pT (t b:Addr)(H H':Hp):Prop:=∀a,a≠t->a≠b->H' a=H a
theorem pT.trans {t b:Addr}{H H1 d:Hp}(h:pT t b H H1)(k:pT t b H1 d):pT t b H d:=λa e c=>(k a e c).trans (h a e c)
def km (K:PySem.W.Frag):Sp:=λvs H Q _=>∃(a:Addr) (ns:List Int),vs=[.ref a]/\SqL K H a (ns.map V.int)/\ns.length<=63/\
 ∀(t b c:Addr) (H':Hp),yx H' t b c->H t=none->H b=none->H c=none->zw H H'->Q (.ref t) H'
def zf2 :Sp:=λvs H Q _=>∃(t b c:Addr) (many:Int),vs=[.ref t,.int many]/\yx H t b c/\0<many/\many<big/\
 ∀(v:Int) (H':Hp),0<=v->v<many->yx H' t b c->pT t b H H'->Q (.int v) H'
theorem yx.free {H:Hp}{t b c l:Addr}(T:yx H t b c)(h:H l=none):l≠t/\l≠b/\l≠c:=by
 obtain⟨n,bs,cs,n1,e1,d,a,l1,l2⟩:=T.ex;exact⟨(zh e1 h).symm,(zh d h).symm,(zh a h).symm⟩
theorem yx.off {H H':Hp}{t b c:Addr}(T:yx H t b c)(h:∀a,a=t\/a=b\/a=c->H' a=H a):yx H' t b c:=by
 obtain⟨n,bs,cs,n1,e1,e,d,l1,l2⟩:=T.ex;exact⟨n,bs,cs,n1,by rw[h t (.inl rfl)];exact e1,by rw[h b (.inr (.inl rfl))];exact e,by rw[h c (.inr (.inr rfl))];exact d,l1,l2⟩
theorem cj {H:Hp}{t b c l:Addr}{o:HO}(T:yx H t b c)(h:l≠t/\l≠b/\l≠c):yx (upd H l o) t b c:=
 T.off λa ha=>zc (ha.elim (λe=>e▸h.1.symm) λha=>ha.elim (λe=>e▸h.2.1.symm) λe=>e▸h.2.2.symm)
theorem gn {H H':Hp}{t b c:Addr}(T:yx H t b c)(s:zw H H'):yx H' t b c:=by
 obtain⟨n,bs,cs,n1,e1,d,a,l1,l2⟩:=T.ex;exact⟨n,bs,cs,n1,s _ _ e1,s _ _ d,s _ _ a,l1,l2⟩
theorem zW {H:Hp}{p:Addr}{o:HO}(h:H p=none):zw H (upd H p o):=λb u e=>by rw[zc (zh e h)];exact e
def yi :Addr:=(450:Nat)
def xG :Str:="cheapest_first.<locals>.<lambda>"
def qc (x:Addr):Prop:=x=yi
def tG (c:Addr):HO:=.ext λh=>h.CodeRec (.ref c) xG
structure TabAt (H:Hp):Prop where
 ex:∃ps:Array Value,H yi=some (.tbl ps)/\TriplesOk ps.toList/\∀pos cv,codeAmong pos ps.toList=some cv->∃c,cv=.ref c/\H c=some (tG c)
theorem rj {H H':Hp}(T:TabAt H)(h:∀a o,(∀xs,o≠.lst xs)->H a=some o->H' a=some o):TabAt H':=by
 obtain⟨ps,e1,f,e⟩:=T.ex;refine⟨ps,h _ _ (λxs z=>nomatch z) e1,f,λpos cv b=>?_⟩;obtain⟨c,rfl,d⟩:=e pos cv b;exact⟨c,rfl,h _ _ (λxs z=>nomatch z) d⟩
def Plain (H:Hp)(l:Addr):Prop:=∀o,H l=some o->o≠tG l/\∀ps,o≠.tbl ps
theorem zi7 {H:Hp}{l:Addr}{o:HO}(T:TabAt H)(h:Plain H l):TabAt (upd H l o):=by
 obtain⟨ps,e1,f,e⟩:=T.ex;have n1:yi≠l:=λz=>by rw[z]at e1;exact(h _ e1).2 ps rfl
 refine⟨ps,by rw[zc n1];exact e1,f,λpos cv b=>?_⟩;obtain⟨c,rfl,a⟩:=e pos cv b;have d:c≠l:=λz=>by subst z;exact(h _ a).1 rfl
 exact⟨c,rfl,by rw[zc d];exact a⟩
theorem eA {ps:Array Value}:∀ts,HO.tbl ps≠HO.tup ts:=λ_ z=>by cases z
theorem pQ {H:Hp}{x:Addr}(T:TabAt H)(h:qc x):∃o,H x=some o/\(∀ts,o≠.tup ts)/\∀xs,o≠.lst xs:=by
 obtain⟨ps,e1,_⟩:=T.ex;exact⟨_,by rw[h];exact e1,eA,λ_ z=>by cases z⟩
theorem qw {H:Hp}{l:Addr}{xs:List V}(h:H l=some (.lst xs)):Plain H l:=λo e=>by
 rw[h]at e;cases e;exact⟨(λz=>by cases z),λps z=>by cases z⟩
theorem rC {H:Hp}{l:Addr}{xs:List (Key×V)}(h:H l=some (.dK xs)):Plain H l:=λo e=>by
 rw[h]at e;cases e;exact⟨(λz=>by cases z),λps z=>by cases z⟩
theorem ff {H:Hp}{l C dx:Addr}{fs:List (Str×V)}(h:H l=some (.ins C dx fs)):Plain H l:=λo e=>by
 rw[h]at e;cases e;exact⟨(λz=>by cases z),λps z=>by cases z⟩
theorem lP {H:Hp}{l:Addr}(T:TabAt H)(h:H l=none):¬qc l:=λz=>by
 obtain⟨o,e,_⟩:=pQ T z;rw[h]at e;cases e
theorem zn7 {H H':Hp}{t b:Addr}{xs ys:List V}(T:TabAt H)(d:H t=some (.lst xs))(hb:H b=some (.lst ys))(off:pT t b H H'):TabAt H':=rj T λa o no e=>by
 have n1:a≠t:=λz=>by rw[z,d]at e;cases e;exact no _ rfl
 have c:a≠b:=λz=>by rw[z,hb]at e;cases e;exact no _ rfl
 rw[off a n1 c];exact e
theorem ag {H H':Hp}(T:TabAt H)(h:zw H H'):TabAt H':=rj T λa o _ e=>h a o e
def mh (K:PySem.W.Frag):Sp:=λvs H Q _=>∃(a:Addr) (ns:List Int),vs=[.ref a]/\SqL K H a (ns.map V.int)/\ns.length<=63/\TabAt H/\∀H',Q (.bl true) H'
structure zD2 (mg:Str->Option Value):Prop where
 abs:mg "abs"=none
 list:mg "list"=none
 len:mg "len"=none
structure zT (n:Nat)(d:PyData):Prop where
 shw:d.showable=true
 nod:d.hasDict=false
 dep:d.depth<=8
 len:d.shown.length<=n
 lay:d.canLay0=true
theorem zT.mono {m n:Nat}{d:PyData}(h:zT m d)(e:m<=n):zT n d:=⟨h.shw,h.nod,h.dep,zY8 h.len e,h.lay⟩
theorem tm :∀(ts:List Str) (k:Nat) (acc:Str),(textFrom k acc ts).length<=acc.length+piled ts
 |[],_,acc=>by rw[piled_nil];exact zY1 _
 |t::r,k,acc=>by
  have h:=tm r (k+1) (acc++(if k > 0 then ", " else "":String)++t);rw[piled_cons];have c:(Str.ofString (if k > 0 then ", " else "":String)).length<=2:=by
   split
   ·exact zZ5 rfl
   ·exact zZ4 _
  have b:=yg2 (acc++Str.ofString (if k > 0 then ", " else "":String)) t;have a:=yg2 acc (Str.ofString (if k > 0 then ", " else "":String));show(textFrom (k+1) (acc++Str.ofString (if k > 0 then ", " else "":String)++t) r).length<=_;have h':(textFrom (k+1) (acc++Str.ofString (if k > 0 then ", " else "":String)++t) r).length<=(acc++Str.ofString (if k > 0 then ", " else "":String)++t).length+piled r:=h
  lia
theorem lj (ts:List Str):(listText ts).length<=piled ts+2:=by
 unfold listText;rw[yg2];have h:=tm ts 0 (Str.ofString "[");have e1:(Str.ofString "[").length=1:=rfl;have a:(Str.ofString "]").length=1:=rfl;show(textFrom 0 (Str.ofString "[") ts).length+(Str.ofString "]").length<=_
 lia
theorem pR (ts:List Str):(tupleText ts).length<=piled ts+3:=by
 cases ts with
 |nil=>decide +kernel
 |cons t r=>
  have h:=join_length_add (t::r) (by simp);unfold tupleText;rw[yg2,yg2];have e1:(Str.ofString "(").length=1:=rfl;have a:(Str.ofString (if(t::r).length == 1 then ",)" else ")":String)).length<=2:=by
   split
   ·exact zZ5 rfl
   ·exact z36 (show 1<2 by decide)
  show(Str.ofString "(").length+(Str.join ", " (t::r)).length+(Str.ofString (if(t::r).length == 1 then ",)" else ")":String)).length<=_
  lia
theorem vf {n:Nat}:∀(ds:List PyData),(∀d∈ds,zT n d)->piled (PyData.shownAll ds)<=ds.length*(n+2)
 |[],_=>zZ4 _
 |d::r,h=>by
  have b:=(h d zY9).len;have a:=vf r λe he=>h e (zY6 _ he);show piled (d.shown::PyData.shownAll r)<=_;rw[piled_cons,z00,Nat.succ_mul]
  lia
structure zY (n:Nat)(ds:List PyData):Prop where
 all:∀d∈ds,zT n d
 dep:∀d∈ds,d.depth<=7
theorem zY.parts {n:Nat}:∀{ds:List PyData},zY n ds->PyData.showableAll ds=true/\PyData.hasDictAll ds=false/\PyData.depthAll ds<=7/\PyData.canLayAll0 ds=true
 |[],_=>⟨rfl,rfl,zZ4 _,rfl⟩
 |d::r,h=>by
  obtain⟨a,b,c,e⟩:=zY.parts (ds:=r) ⟨λx f=>h.all x (zY6 _ f),λx f=>h.dep x (zY6 _ f)⟩;have hd:=h.all d zY9;have g:=h.dep d zY9;refine⟨?_,?_,?_,?_⟩
  ·simp only[PyData.showableAll,hd.shw,a,Bool.and_self]
  ·simp only[PyData.hasDictAll,hd.nod,b,Bool.or_self]
  ·simp only[PyData.depthAll];exact zP2 g c
  ·simp only[PyData.canLayAll0,hd.lay,e,Bool.and_self]
theorem zT.list {n m:Nat}{ds:List PyData}(h:zY n ds)(e:ds.length*(n+2)+2<=m):zT m (.list ds):=by
 obtain⟨a,b,c,f⟩:=h.parts;refine⟨by simp only[PyData.showable,a],by simp only[PyData.hasDict,b],by simp only[PyData.depth];exact zz7 c,?_,by simp only[PyData.canLay0,f]⟩;show(listText (PyData.shownAll ds)).length<=m;have g:=lj (PyData.shownAll ds);have d:=vf ds h.all;exact zu0 e g d
theorem zT.tuple {n m:Nat}{ds:List PyData}(h:zY n ds)(e:ds.length*(n+2)+3<=m):zT m (.tuple ds):=by
 obtain⟨a,b,c,f⟩:=h.parts;refine⟨by simp only[PyData.showable,a],by simp only[PyData.hasDict,b],by simp only[PyData.depth];exact zz7 c,?_,by simp only[PyData.canLay0,f]⟩;show(tupleText (PyData.shownAll ds)).length<=m;have g:=pR (PyData.shownAll ds);have d:=vf ds h.all;exact zu0 e g d
theorem af {i:Int}(h0:-big<i)(b:i<big):i.natAbs.log2<1920:=by
 by_cases hn:i.natAbs=0
 ·rw[hn];decide
 ·have a:i.natAbs<2 ^ 256:=by
   have e:(2:Nat) ^ 256=115792089237316195423570985008687907853269984665640564039457584007913129639936:=by decide +kernel
   rw[e];unfold big at h0 b
   lia
  have c:i.natAbs.log2<256:=(Nat.log2_lt hn).mpr a
  lia
theorem zT.int {i:Int}(h0:-big<i)(b:i<big):zT 2000 (.int i):=by
 have a:=af h0 b;refine⟨by simp only[PyData.showable,z44];exact a,rfl,zZ4 _,?_,rfl⟩;have:=int_text_len_1921 a;show(Str.ofString (toString i)).length<=2000
 lia
theorem zT.none :zT 2000 .none:=⟨rfl,rfl,zZ4 _,by decide +kernel,rfl⟩
theorem zT.bool (b:Bool):zT 2000 (.bool b):=⟨rfl,rfl,zZ4 _,by cases b<;>decide +kernel,rfl⟩
theorem zT.shaped {n:Nat}{d:PyData}(h:zT n d):SeqAt.shaped d=true:=by
 unfold SeqAt.shaped;rw[h.lay,yg3,z44];have:=h.dep
 lia
section
variable {X:Cx}
theorem qr {s:Shared}{h':Heap}{o:Obj}{q:Addr}(hq:q=s.heap.objs.size)(hk:∀b x,b∉[q]->(s.heap.push o).get? b=some x->h'.get? b=some x):∀b x,s.heap.get? b=some x->h'.get? b=some x:=λb x e=>by
 refine hk b x (λhm=>?_) (zX6 _ e);have a:b=q:=by simpa using hm
 rw[a,hq]at e;exact z33 _ (zY5 e)
theorem fU (k:X.calm=true):yI X (.builtin "all") (λxs H Q=>∃(p:Addr) (bs:List Bool),xs=[.ref p]/\H p=some (.lst (bs.map V.bl))/\Q (.bl (bs.all id)) H):=by
 intro pins s σ H xs us Q I r h;obtain⟨p,bs,rfl,d,q⟩:=h;obtain⟨u,rfl,m⟩:=Vals.one r;cases(show u=Value.ref p from m);obtain⟨its,g,pl,hz⟩:=I.list (SqL.of d);have f:=nA g;have e:=pl.isList;have a:p<s.heap.objs.size:=I.hok.lt d;refine call_all_walk (z67 e ⟨s.heap.objs.size,[s.heap.objs.size,p],[s.heap.objs.size],its.toArray.size,_,_,λi=>(bs[i]?).getD true,rfl,
  Walks.list (A:=X.A.in1) (I.ok.hd k) _ p (zZ7 a) its.toArray,⟨⟨_,zY7 _ rfl,rfl,rfl⟩,e.push _⟩,λi v s' o t l c=>?_,λh' tk hk=>?_⟩)
 ·obtain⟨b,j,rfl⟩:=f.get i v (by simpa using l);dsimp only at c;rw[j]at c;exact z53 c
 ·have n:((List.range its.toArray.size).all λi=>(bs[i]?).getD true)=bs.all id:=by
   rw[zZ0,f.length];exact LSm.range_all bs
  rw[n];exact⟨.bl _,H,I.kept (t':=tk) (qr rfl hk),rfl,q⟩
theorem fZ (k:X.calm=true):yI X (.builtin "any") (λxs H Q=>∃(p:Addr) (bs:List Bool),xs=[.ref p]/\H p=some (.lst (bs.map V.bl))/\Q (.bl (bs.any id)) H):=by
 intro pins s σ H xs us Q I r h;obtain⟨p,bs,rfl,d,q⟩:=h;obtain⟨u,rfl,m⟩:=Vals.one r;cases(show u=Value.ref p from m);obtain⟨its,g,pl,hz⟩:=I.list (SqL.of d);have f:=nA g;have e:=pl.isList;have a:p<s.heap.objs.size:=I.hok.lt d;refine call_any_walk (z67 e ⟨s.heap.objs.size,[s.heap.objs.size,p],[s.heap.objs.size],its.toArray.size,_,_,λi=>(bs[i]?).getD false,rfl,
  Walks.list (A:=X.A.in1) (I.ok.hd k) _ p (zZ7 a) its.toArray,⟨⟨_,zY7 _ rfl,rfl,rfl⟩,e.push _⟩,λi v s' o t l c=>?_,λh' tk hk=>?_⟩)
 ·obtain⟨b,j,rfl⟩:=f.get i v (by simpa using l);dsimp only at c;rw[j]at c;exact z53 c
 ·have n:((List.range its.toArray.size).any λi=>(bs[i]?).getD false)=bs.any id:=by
   rw[zZ0,f.length];exact LSm.range_any bs
  rw[n];exact⟨.bl _,H,I.kept (t':=tk) (qr rfl hk),rfl,q⟩
end
def zX0 :PyData->Bool
 |.int _=>true
 |_=>false
def yW (lo hi:Int):PyData->Bool
 |.int i=>decide (lo<=i)&&decide (i<=hi)
 |_=>false
def pairD :PyData->Bool
 |.tuple ds=>decide ((ds.length:Int)=2)
 |_=>false
abbrev eE :PyData->Bool:=yW 0 1000000
def zX4 :PyData->Bool
 |.tuple [a,b]=>eE a&&eE b
 |_=>false
def zC6 :PyData->Option Int
 |.tuple [.int a,.int b]=>if eE (.int a)&&eE (.int b)then some (b-a)else none
 |_=>none
def vo (d:PyData):Bool:=match zC6 d with
 |some k=>decide (0<=k)
 |none=>false
noncomputable def sub (p:Addr->Prop)(H:Hp):Hp:=λa=>open Classical in if p a then H a else none
theorem zb {p:Addr->Prop}{H:Hp}{a:Addr}{o:HO}(h:sub p H a=some o):p a/\H a=some o:=by
 unfold sub at h;split at h
 ·rename_i b;exact⟨b,h⟩
 ·cases h
theorem zu {p:Addr->Prop}{H:Hp}{a:Addr}{o:HO}(b:p a)(h:H a=some o):sub p H a=some o:=by
 unfold sub;rw[if_pos b];exact h
theorem zm {p q:Addr->Prop}{H H':Hp}(h:∀a o,p a->H a=some o->q a/\H' a=some o):zw (sub p H) (sub q H'):=λa o e=>by
 obtain⟨c,he⟩:=zb e;obtain⟨hq,b⟩:=h a o c he;exact zu hq b
theorem yz {p:Addr->Prop}{H:Hp}:zw (sub p H) H:=λ_ _ e=>(zb e).2
theorem zY.snoc {n:Nat}{ds:List PyData}{d:PyData}(h:zY n ds)(hd:zT n d)(a:d.depth<=7):zY n (ds++[d]):=
 ⟨λe he=>(z01.mp he).elim (h.all e) λz=>by rw[zY2.mp z];exact hd,λe he=>(z01.mp he).elim (h.dep e) λz=>by rw[zY2.mp z];exact a⟩
theorem zY.nil {n:Nat}:zY n []:=⟨λd hd=>by simp at hd,λd hd=>by simp at hd⟩
theorem zY.two {n:Nat}{d e:PyData}(hd:zT n d)(he:zT n e)(b:d.depth<=7)(a:e.depth<=7):zY n [d,e]:=(zY.nil.snoc hd b).snoc he a
section
variable {X:Cx}{e:Expr}{es:List Expr}
def uF (X:Cx)(e:Expr):TE:=λσ H Q=>∃t,PE X e t/\t σ H Q
theorem zg :PE X e (uF X e):=λpins s σ H Q I a=>by obtain⟨t,p,q⟩:=a;exact p pins s σ H Q I q
def zQ2 (X:Cx)(e:Expr):TT:=λσ H Q=>∃t,PT X e t/\t σ H Q
theorem xk :PT X e (zQ2 X e):=λpins s σ H Q I a=>by obtain⟨t,p,q⟩:=a;exact p pins s σ H Q I q
def zF0 (X:Cx)(es:List Expr):TA:=λσ H Q=>∃t,PA X es t/\t σ H Q
theorem yv :PA X es (zF0 X es):=λpos pins s σ H Q I a=>by obtain⟨t,p,q⟩:=a;exact p pos pins s σ H Q I q
end
def yZ :Key->PyData
 |.inl i=>.int i
 |.inr x=>.str x
def xcO (a C:Addr)(d:Option Addr):HO:=.ext λh=>∃o vs,h.get? a=some o/\o.cls=.ref C/\o.dict=d/\o.data=.fields vs
mutual
inductive AV (H:Hp):V->PyData->Prop where
 |non:AV H .non .none
 |bl (b:Bool):AV H (.bl b) (.bool b)
 |int (i:Int):AV H (.int i) (.int i)
 |str (x:Str):AV H (.str x) (.str x)
 |lst {a:Addr}{xs:List V}{ds:List PyData}:H a=some (.lst xs)->AVs H xs ds->AV H (.ref a) (.list ds)
 |tup {a:Addr}{xs:List V}{ds:List PyData}:H a=some (.tup xs)->AVs H xs ds->AV H (.ref a) (.tuple ds)
 |ins {a C dx:Addr}{fs:List (Str×V)}{ds:List (PyData×PyData)}:H a=some (.ins C dx fs)->AVf H fs ds->AV H (.ref a) (.dict ((.int (C:Nat),.none)::ds))
 |dk {a:Addr}{o:Obj}{kvs:List (Key×V)}{ds:List (PyData×PyData)}:H a=some (.frz o (.dK kvs))->AVk H kvs ds->AV H (.ref a) (.dict ((.none,.none)::ds))
 |dt {a:Addr}{o:Obj}{kvs:List (List Key×V)}{ds:List (PyData×PyData)}:H a=some (.frz o (.dT kvs))->AVt H kvs ds->AV H (.ref a) (.dict ((.none,.bool true)::ds))
 |xc {a C dx:Addr}{fs:List (Str×V)}{ds:List (PyData×PyData)}:H a=some (xcO a C (some dx))->H dx=some (.xd fs)->AVf H fs ds->AV H (.ref a) (.dict ((.int (C:Nat),.bool true)::ds))
 |xn {a C:Addr}:H a=some (xcO a C none)->AV H (.ref a) (.dict [(.int (C:Nat),.bool false)])
inductive AVs (H:Hp):List V->List PyData->Prop where
 |nil:AVs H [] []
 |cons {x:V}{xs:List V}{d:PyData}{ds:List PyData}:AV H x d->AVs H xs ds->AVs H (x::xs) (d::ds)
inductive AVf (H:Hp):List (Str×V)->List (PyData×PyData)->Prop where
 |nil:AVf H [] []
 |cons {f:Str}{x:V}{fs:List (Str×V)}{d:PyData}{ds:List (PyData×PyData)}:AV H x d->AVf H fs ds->AVf H ((f,x)::fs) ((.str f,d)::ds)
inductive AVk (H:Hp):List (Key×V)->List (PyData×PyData)->Prop where
 |nil:AVk H [] []
 |cons {k:Key}{x:V}{fs:List (Key×V)}{d:PyData}{ds:List (PyData×PyData)}:AV H x d->AVk H fs ds->AVk H ((k,x)::fs) ((yZ k,d)::ds)
inductive AVt (H:Hp):List (List Key×V)->List (PyData×PyData)->Prop where
 |nil:AVt H [] []
 |cons {k:List Key}{x:V}{fs:List (List Key×V)}{d:PyData}{ds:List (PyData×PyData)}:AV H x d->AVt H fs ds->AVt H ((k,x)::fs) ((.tuple (k.map yZ),d)::ds)
end
theorem gO {H:Hp}{m1:V->PyData->Prop}{m2:List V->List PyData->Prop}{m3:List (Str×V)->List (PyData×PyData)->Prop}{m4:List (Key×V)->List (PyData×PyData)->Prop}{m5:List (List Key×V)->List (PyData×PyData)->Prop}
  (A:m1 .non .none) (v:∀b,m1 (.bl b) (.bool b)) (B:∀i,m1 (.int i) (.int i)) (E:∀x,m1 (.str x) (.str x))
  (P:∀{a xs ds},H a=some (.lst xs)->m2 xs ds->m1 (.ref a) (.list ds)) (S:∀{a xs ds},H a=some (.tup xs)->m2 xs ds->m1 (.ref a) (.tuple ds))
  (M:∀{a C dx fs ds},H a=some (.ins C dx fs)->m3 fs ds->m1 (.ref a) (.dict ((.int (C:Nat),.none)::ds))) (O:∀{a o kvs ds},H a=some (.frz o (.dK kvs))->m4 kvs ds->m1 (.ref a) (.dict ((.none,.none)::ds)))
  (R:∀{a o kvs ds},H a=some (.frz o (.dT kvs))->m5 kvs ds->m1 (.ref a) (.dict ((.none,.bool true)::ds))) (L:∀{a C dx fs ds},H a=some (xcO a C (some dx))->H dx=some (.xd fs)->m3 fs ds->m1 (.ref a) (.dict ((.int (C:Nat),.bool true)::ds)))
  (e:∀{a C},H a=some (xcO a C none)->m1 (.ref a) (.dict [(.int (C:Nat),.bool false)]))
  (l:m2 [] []) (k2:∀{x xs d ds},m1 x d->m2 xs ds->m2 (x::xs) (d::ds)) (K:m3 [] []) (k3:∀{f x fs d ds},m1 x d->m3 fs ds->m3 ((f,x)::fs) ((.str f,d)::ds))
  (r:m4 [] []) (Q:∀{k x fs d ds},m1 x d->m4 fs ds->m4 ((k,x)::fs) ((yZ k,d)::ds)) (J:m5 [] []) (k5:∀{k x fs d ds},m1 x d->m5 fs ds->m5 ((k,x)::fs) ((.tuple (k.map yZ),d)::ds)):
  (∀x d,AV H x d->m1 x d)/\(∀x d,AVs H x d->m2 x d)/\(∀x d,AVf H x d->m3 x d)/\(∀x d,AVk H x d->m4 x d)/\∀x d,AVt H x d->m5 x d:=by
 have p:=λ{a} {xs} {ds} (q:H a=some (.lst xs)) (_:AVs H xs ds) (z:m2 xs ds)=>P q z;have j:=λ{a} {xs} {ds} (q:H a=some (.tup xs)) (_:AVs H xs ds) (z:m2 xs ds)=>S q z;have t:=λ{a C dx} {fs} {ds} (q:H a=some (.ins C dx fs)) (_:AVf H fs ds) (z:m3 fs ds)=>M q z;have I:=λ{a o} {fs} {ds} (q:H a=some (.frz o (.dK fs))) (_:AVk H fs ds) (z:m4 fs ds)=>O q z;have w:=λ{a o} {fs} {ds} (q:H a=some (.frz o (.dT fs))) (_:AVt H fs ds) (z:m5 fs ds)=>R q z;have c:=λ{a C dx} {fs} {ds} (q:H a=some (xcO a C (some dx))) (N:H dx=some (.xd fs)) (_:AVf H fs ds) (z:m3 fs ds)=>L q N z;have F:=λ{x} {xs} {d} {ds} (_:AV H x d) (_:AVs H xs ds) (y:m1 x d) (z:m2 xs ds)=>k2 y z;have G:=λ{f} {x} {fs} {d} {ds} (_:AV H x d) (_:AVf H fs ds) (y:m1 x d) (z:m3 fs ds)=>k3 (f:=f) y z;have u:=λ{k} {x} {fs} {d} {ds} (_:AV H x d) (_:AVk H fs ds) (y:m1 x d) (z:m4 fs ds)=>Q (k:=k) y z;have D:=λ{k} {x} {fs} {d} {ds} (_:AV H x d) (_:AVt H fs ds) (y:m1 x d) (z:m5 fs ds)=>k5 (k:=k) y z
 let n:=λx d (_:AV H x d)=>m1 x d
 let M2:=λx d (_:AVs H x d)=>m2 x d
 let g:=λx d (_:AVf H x d)=>m3 x d
 let m:=λx d (_:AVk H x d)=>m4 x d
 let s:=λx d (_:AVt H x d)=>m5 x d
 exact⟨λ_ _ h=>@AV.rec H n M2 g m s A v B E p j t I w c e l F K G r u J D _ _ h,λ_ _ h=>@AVs.rec H n M2 g m s A v B E p j t I w c e l F K G r u J D _ _ h,λ_ _ h=>@AVf.rec H n M2 g m s A v B E p j t I w c e l F K G r u J D _ _ h,λ_ _ h=>@AVk.rec H n M2 g m s A v B E p j t I w c e l F K G r u J D _ _ h,λ_ _ h=>@AVt.rec H n M2 g m s A v B E p j t I w c e l F K G r u J D _ _ h⟩
theorem AVs.ind {H:Hp}{motive:(xs:List V)->(ds:List PyData)->AVs H xs ds->Prop}(nil:motive [] [] .nil)(cons:∀{x:V}{xs:List V}{d:PyData}{ds:List PyData} (a:AV H x d) (r:AVs H xs ds),motive xs ds r->motive (x::xs) (d::ds) (.cons a r)){xs:List V}{ds:List PyData}(h:AVs H xs ds):motive xs ds h:=
 ((gO (m1:=AV H) (m2:=λxs ds=>∃h:AVs H xs ds,motive xs ds h) (m3:=AVf H) (m4:=AVk H) (m5:=AVt H) .non .bl .int .str (λq z=>.lst q z.1) (λq z=>.tup q z.1) .ins .dk .dt .xc .xn ⟨.nil,nil⟩ (λa z=>⟨.cons a z.1,cons a z.1 z.2⟩) .nil .cons .nil .cons .nil .cons).2.1 _ _ h).2
theorem AVf.ind {H:Hp}{motive:(xs:List (Str×V))->(ds:List (PyData×PyData))->AVf H xs ds->Prop}(nil:motive [] [] .nil)(cons:∀{f:Str}{x:V}{fs:List (Str×V)}{d:PyData}{ds:List (PyData×PyData)} (a:AV H x d) (r:AVf H fs ds),motive fs ds r->motive ((f,x)::fs) ((.str f,d)::ds) (.cons a r)){xs:List (Str×V)}{ds:List (PyData×PyData)}(h:AVf H xs ds):motive xs ds h:=
 ((gO (m1:=AV H) (m2:=AVs H) (m3:=λxs ds=>∃h:AVf H xs ds,motive xs ds h) (m4:=AVk H) (m5:=AVt H) .non .bl .int .str .lst .tup (λq z=>.ins q z.1) .dk .dt (λq s z=>.xc q s z.1) .xn .nil .cons ⟨.nil,nil⟩ (λa z=>⟨.cons a z.1,cons a z.1 z.2⟩) .nil .cons .nil .cons).2.2.1 _ _ h).2
theorem AVk.ind {H:Hp}{motive:(xs:List (Key×V))->(ds:List (PyData×PyData))->AVk H xs ds->Prop}(nil:motive [] [] .nil)(cons:∀{k:Key}{x:V}{fs:List (Key×V)}{d:PyData}{ds:List (PyData×PyData)} (a:AV H x d) (r:AVk H fs ds),motive fs ds r->motive ((k,x)::fs) ((yZ k,d)::ds) (.cons a r)){xs:List (Key×V)}{ds:List (PyData×PyData)}(h:AVk H xs ds):motive xs ds h:=
 ((gO (m1:=AV H) (m2:=AVs H) (m3:=AVf H) (m4:=λxs ds=>∃h:AVk H xs ds,motive xs ds h) (m5:=AVt H) .non .bl .int .str .lst .tup .ins (λq z=>.dk q z.1) .dt .xc .xn .nil .cons .nil .cons ⟨.nil,nil⟩ (λa z=>⟨.cons a z.1,cons a z.1 z.2⟩) .nil .cons).2.2.2.1 _ _ h).2
theorem iT {H H':Hp}(e:zw H H'):(∀x d,AV H x d->AV H' x d)/\(∀x d,AVs H x d->AVs H' x d)/\(∀x d,AVf H x d->AVf H' x d)/\(∀x d,AVk H x d->AVk H' x d)/\∀x d,AVt H x d->AVt H' x d:=by refine gO (m1:=λx d=>AV H' x d) (m2:=λx d=>AVs H' x d) (m3:=λx d=>AVf H' x d) (m4:=λx d=>AVk H' x d) (m5:=λx d=>AVt H' x d) .non .bl .int .str (λhq a=>.lst (e _ _ hq) a) (λhq a=>.tup (e _ _ hq) a) (λhq a=>.ins (e _ _ hq) a) (λhq a=>.dk (e _ _ hq) a) (λhq a=>.dt (e _ _ hq) a) (λhq hd a=>.xc (e _ _ hq) (e _ _ hd) a) (λhq=>.xn (e _ _ hq)) .nil .cons .nil .cons .nil .cons .nil .cons
theorem AV.same {H H':Hp}(e:zw H H'){x:V}{d:PyData}(h:AV H x d):AV H' x d:=(iT e).1 _ _ h
theorem AVs.same {H H':Hp}(e:zw H H'){xs:List V}{ds:List PyData}(h:AVs H xs ds):AVs H' xs ds:=(iT e).2.1 _ _ h
theorem AVk.same {H H':Hp}(e:zw H H'){fs:List (Key×V)}{ds:List (PyData×PyData)}(h:AVk H fs ds):AVk H' fs ds:=(iT e).2.2.2.1 _ _ h
theorem AVt.same {H H':Hp}(e:zw H H'){fs:List (List Key×V)}{ds:List (PyData×PyData)}(h:AVt H fs ds):AVt H' fs ds:=(iT e).2.2.2.2 _ _ h
theorem dv5 {H:Hp}:(∀x d,AV H x d->d.hasDict=false->DV H x d)/\(∀x d,AVs H x d->PyData.hasDictAll d=false->DVs H x d):=by
 have r:=gO (H:=H) (m1:=λx d=>d.hasDict=false->DV H x d) (m2:=λx d=>PyData.hasDictAll d=false->DVs H x d) (m3:=λ_ _=>True) (m4:=λ_ _=>True) (m5:=λ_ _=>True) (λ_=>.non) (λb _=>.bl b) (λi _=>.int i) (λx _=>.str x) (λhq a h=>.lst hq (a (by simpa only[PyData.hasDict]using h))) (λhq a h=>.tup hq (a (by simpa only[PyData.hasDict]using h))) (λ_ _ h=>by simp[PyData.hasDict]at h) (λ_ _ h=>by simp[PyData.hasDict]at h) (λ_ _ h=>by simp[PyData.hasDict]at h) (λ_ _ _ h=>by simp[PyData.hasDict]at h) (λ_ h=>by simp[PyData.hasDict]at h) (λ_=>.nil)
  (λh a e=>by
   simp only[PyData.hasDictAll,yc8]at e;exact .cons (h e.1) (a e.2)) trivial (λ_ _=>trivial) trivial (λ_ _=>trivial) trivial (λ_ _=>trivial)
 exact⟨r.1,r.2.1⟩
theorem AV.dv {H:Hp}{x:V}{d:PyData}(h:AV H x d)(e:d.hasDict=false):DV H x d:=dv5.1 _ _ h e
theorem AVs.dv {H:Hp}{xs:List V}{ds:List PyData}(h:AVs H xs ds)(e:PyData.hasDictAll ds=false):DVs H xs ds:=dv5.2 _ _ h e
theorem AVs.length {H:Hp}{xs:List V}{ds:List PyData}(h:AVs H xs ds):xs.length=ds.length:=h.ind (motive:=λxs ds _=>xs.length=ds.length) rfl λ_ _ z=>congrArg (·+1) z
theorem AVs.append {H:Hp}{xs ys:List V}{ds b:List PyData}(h:AVs H xs ds)(k:AVs H ys b):AVs H (xs++ys) (ds++b):=h.ind (motive:=λxs ds _=>AVs H (xs++ys) (ds++b)) k λa _ z=>.cons a z
theorem AVs.get {H:Hp}{xs:List V}{ds:List PyData}{i:Nat}{d:PyData}(h:AVs H xs ds)(e:ds[i]?=some d):∃x,xs[i]?=some x/\AV H x d:=by
 induction h using AVs.ind generalizing i with
 |nil=>simp at e
 |cons a _ b=>
  cases i with
  |zero=>exact⟨_,rfl,z07 e▸a⟩
  |succ i=>exact b (i:=i) e
theorem AVs.take {H:Hp}{xs:List V}{ds:List PyData}(n:Nat)(h:AVs H xs ds):AVs H (xs.take n) (ds.take n):=by
 induction h using AVs.ind generalizing n with
 |nil=>cases n<;>exact .nil
 |cons a _ b=>
  cases n with
  |zero=>exact .nil
  |succ n=>exact .cons a (b n)
theorem AVs.drop {H:Hp}{xs:List V}{ds:List PyData}(n:Nat)(h:AVs H xs ds):AVs H (xs.drop n) (ds.drop n):=by
 induction h using AVs.ind generalizing n with
 |nil=>cases n<;>exact .nil
 |cons a r b=>
  cases n with
  |zero=>exact .cons a r
  |succ n=>exact b n
theorem AVs.set {H:Hp}{x:V}{d:PyData}(a:AV H x d){xs:List V}{ds:List PyData}(i:Nat)(h:AVs H xs ds):AVs H (xs.set i x) (ds.set i d):=by
 induction h using AVs.ind generalizing i with
 |nil=>exact .nil
 |cons q r b=>
  cases i with
  |zero=>exact .cons a r
  |succ i=>exact .cons q (b i)
theorem AVs.atI {H:Hp}{xs:List V}{ds:List PyData}{i:Int}{d:PyData}(h:AVs H xs ds)(e:atI ds i=some d):∃x,L2.atI xs i=some x/\AV H x d:=by
 unfold L2.atI at e ⊢;rw[h.length];cases q:ixN ds.length i with
 |none=>rw[q]at e;cases e
 |some j=>
  rw[q]at e;exact h.get (i:=j) e
def cutD (ds:List PyData)(lo hi:Option Int):List PyData:=(ds.drop (HT.sIx ds.length 0 lo)).take (HT.sIx ds.length ds.length hi-HT.sIx ds.length 0 lo)
theorem AVs.cut {H:Hp}{xs:List V}{ds:List PyData}(h:AVs H xs ds)(lo hi:Option Int):AVs H (nY xs lo hi) (cutD ds lo hi):=by
 unfold nY cutD;rw[h.length];exact(h.drop _).take _
mutual
def noL :PyData->Bool
 |.list _=>false
 |.dict ((.none,_)::_)=>false
 |.dict kvs=>sE kvs
 |.tuple ds=>xQ ds
 |_=>true
def xQ :List PyData->Bool
 |[]=>true
 |d::r=>noL d&&xQ r
def sE :List (PyData×PyData)->Bool
 |[]=>true
 |(_,d)::r=>noL d&&sE r
end
def Ob :HO->Prop
 |.lst _=>True
 |.dK _=>True
 |.frz _ _=>True
 |_=>False
theorem zO1 {H H':Hp}(e:∀a o,¬Ob o->H a=some o->H' a=some o):(∀x d,AV H x d->noL d=true->AV H' x d)/\(∀x d,AVs H x d->xQ d=true->AVs H' x d)/\(∀x d,AVf H x d->sE d=true->AVf H' x d)/\(∀x d,AVk H x d->sE d=true->AVk H' x d):=by
 have r:=gO (H:=H) (m1:=λx d=>noL d=true->AV H' x d) (m2:=λx d=>xQ d=true->AVs H' x d) (m3:=λx d=>sE d=true->AVf H' x d) (m4:=λx d=>sE d=true->AVk H' x d) (m5:=λ_ _=>True) (λ_=>.non) (λb _=>.bl b) (λi _=>.int i) (λx _=>.str x) (λ_ _ h=>by simp[L2.noL]at h) (λhq c h=>.tup (e _ _ (λz=>z) hq) (c (by simpa only[L2.noL]using h))) (λhq c h=>.ins (e _ _ (λz=>z) hq) (c (by simpa[L2.noL,L2.sE]using h))) (λ_ _ h=>by simp[L2.noL]at h) (λ_ _ h=>by simp[L2.noL]at h) (λhq hd c h=>.xc (e _ _ (λz=>z) hq) (e _ _ (λz=>z) hd) (c (by simpa[L2.noL,L2.sE]using h))) (λhq _=>.xn (e _ _ (λz=>z) hq)) (λ_=>.nil)
  (λh c q=>by
   simp only[L2.xQ,z21]at q;exact .cons (h q.1) (c q.2)) (λ_=>.nil)
  (λh c q=>by
   simp only[L2.sE,z21]at q;exact .cons (h q.1) (c q.2)) (λ_=>.nil)
  (λh c q=>by
   simp only[L2.sE,z21]at q;exact .cons (h q.1) (c q.2)) trivial (λ_ _=>trivial)
 exact⟨r.1,r.2.1,r.2.2.1,r.2.2.2.1⟩
theorem AV.noL {H H':Hp}(e:∀a o,¬Ob o->H a=some o->H' a=some o){x:V}{d:PyData}(h:AV H x d)(q:L2.noL d=true):AV H' x d:=(zO1 e).1 _ _ h q
theorem AVs.noL {H H':Hp}(e:∀a o,¬Ob o->H a=some o->H' a=some o){xs:List V}{ds:List PyData}(h:AVs H xs ds)(q:xQ ds=true):AVs H' xs ds:=(zO1 e).2.1 _ _ h q
structure Fr where
 H0:Hp
 O0:Addr->Prop
 tp:Option (Addr×Addr×Addr)
inductive A where
 |dat (d:PyData)
 |ow (c:PyData)
 |deep (d:PyData) (S:Addr->Prop)
 |tape
 |at(l:Addr)
 |exc (r:Fr) (q:PyData->Prop)
 |pin (l:Addr) (vs:List V) (ds:List PyData)
 |nst (l:Addr) (ls:List Addr) (dss:List (List PyData))
@[reducible] def A.own (ds:List PyData):A:=.ow (.list ds)
abbrev yS (ds:List (PyData×PyData)):PyData:=.dict ((.none,.none)::ds)
@[reducible] def A.dic (ds:List (PyData×PyData)):A:=.ow (yS ds)
abbrev Ev :=List (Option A)
def wt (o:HO):Prop:=∀ts,o≠.tup ts
theorem yQ {xs:List V}:wt (.lst xs):=λ_ z=>by cases z
theorem Ob.notup {o:HO}(h:Ob o):wt o:=λts z=>by subst z;exact h
def NT (F:Fr)(x:Addr):Prop:=(∀t b c,F.tp=some (t,b,c)->x≠t/\x≠b)/\¬qc x
def Kz (F:Fr)(H H':Hp):Prop:=∀x o,H x=some o->NT F x->H' x=some o
structure zD (F:Fr)(H:Hp):Prop where
 tab:TabAt H
 ot:∀x,qc x->F.O0 x
 all:∀t b c,F.tp=some (t,b,c)->yx H t b c/\F.O0 t/\F.O0 b/\F.O0 c
instance {F:Fr} {H:Hp}:CoeFun (zD F H) (λ_=>∀t b c,F.tp=some (t,b,c)->yx H t b c/\F.O0 t/\F.O0 b/\F.O0 c):=⟨zD.all⟩
theorem zD.to {F F':Fr}{H:Hp}(t:zD F H)(g:F'.tp=F.tp)(d:∀x,F.O0 x->F'.O0 x):zD F' H:=⟨t.tab,λx h=>d x (t.ot x h),λa b c e=>by
 obtain⟨i,f,k,j⟩:=t a b c (g▸e);exact⟨i,d _ f,d _ k,d _ j⟩⟩
theorem zD.re {F F':Fr}{H H':Hp}(t:zD F H)(t':zD F' H')(d:F'.tp=F.tp):zD F H':=⟨t'.tab,t.ot,λa b c e=>⟨(t' a b c (d▸e)).1,(t a b c e).2⟩⟩
theorem zD.upd {F:Fr}{H:Hp}{l:Addr}{o:HO}(t:zD F H)(h:∀a b c,F.tp=some (a,b,c)->l≠a/\l≠b/\l≠c)(d:Plain H l):zD F (upd H l o):=⟨zi7 t.tab d,t.ot,λa b c e=>⟨cj (t a b c e).1 (h a b c e),(t a b c e).2⟩⟩
theorem zD.updO {F:Fr}{H:Hp}{l:Addr}{o:HO}(t:zD F H)(h:¬F.O0 l)(d:Plain H l):zD F (L2.upd H l o):=t.upd (λa b c e=>⟨λz=>h (by rw[z];exact(t a b c e).2.1),λz=>h (by rw[z];exact(t a b c e).2.2.1),λz=>h (by rw[z];exact(t a b c e).2.2.2)⟩) d
def foot (s:Option V):A->Addr->Prop
 |.ow _,x=>s=some (.ref x)
 |.deep _ S,x=>S x
 |.nst l ls _,x=>x∈l::ls
 |_,_=>False
def Ow (F:Fr)(α:Ev)(σ:St)(x:Addr):Prop:=F.O0 x\/∃(i:Nat) (a:A) (s:Option V),α[i]?=some (some a)/\σ[i]?=some s/\foot s a x
noncomputable abbrev Gz (F:Fr)(α:Ev)(σ:St)(H:Hp):Hp:=sub (λx=>¬Ow F α σ x) H
noncomputable def uM (S:Addr->Prop)(G H:Hp):Hp:=λx=>open Classical in if S x then H x else match G x with
 |some (.lst _)=>none
 |o=>o
theorem uI {S:Addr->Prop}{G a H H':Hp}(h:zw G a)(b:∀x o,S x->H x=some o->H' x=some o):zw (uM S G H) (uM S a H'):=λx o e=>by
 unfold uM at e ⊢;by_cases z:S x
 ·rw[if_pos z]at e ⊢;exact b x o z e
 ·rw[if_neg z]at e ⊢;cases q:G x with
  |none=>rw[q]at e;cases e
  |some u=>
   rw[h _ _ q];rw[q]at e;exact e
theorem nk {S:Addr->Prop}{G H:Hp}{x:Addr}{o:HO}(h:uM S G H x=some o):(S x/\H x=some o)\/(¬S x/\G x=some o):=by
 unfold uM at h;by_cases z:S x
 ·rw[if_pos z]at h;exact .inl ⟨z,h⟩
 ·rw[if_neg z]at h;split at h
  ·cases h
  ·exact .inr ⟨z,h⟩
inductive yC (G:Hp):HO->PyData->Prop where
 |lst {xs:List V}{ds:List PyData}:AVs G xs ds->yC G (.lst xs) (.list ds)
 |dk {kvs:List (Key×V)}{ds:List (PyData×PyData)}:AVk G kvs ds->yC G (.dK kvs) (yS ds)
theorem yC.ob {G:Hp}{o:HO}{c:PyData}(h:yC G o c):Ob o:=by cases h<;>trivial
theorem yC.same {G a:Hp}{o:HO}{c:PyData}(h:yC G o c)(s:zw G a):yC a o c:=by
 cases h with
 |lst h=>exact .lst (h.same s)
 |dk h=>exact .dk (h.same s)
theorem yC.av {G:Hp}{o:HO}{ds:List PyData}{l:Addr}(h:yC G o (.list ds))(e:G l=some o):AV G (.ref l) (.list ds):=by
 cases h with
 |lst h=>exact .lst e h
theorem yC.lst_inv {G:Hp}{o:HO}{ds:List PyData}(h:yC G o (.list ds)):∃xs,o=.lst xs/\AVs G xs ds:=by cases h;exact⟨_,rfl,by assumption⟩
theorem yC.dk_inv {G:Hp}{o:HO}{ds:List (PyData×PyData)}(h:yC G o (yS ds)):∃xs,o=.dK xs/\AVk G xs ds:=by cases h;exact⟨_,rfl,by assumption⟩
theorem yC.plain {G H:Hp}{o:HO}{c:PyData}{l:Addr}(h:yC G o c)(e:H l=some o):Plain H l:=by
 cases h with
 |lst h=>exact qw e
 |dk h=>exact rC e
structure Lnk (r F:Fr)(H:Hp):Prop where
 tp:r.tp=F.tp
 o:∀x,r.O0 x->F.O0 x
 ok:zD r H
 k:Kz r r.H0 H
def wq (G H:Hp):List Addr->List (List PyData)->Prop
 |[],[]=>True
 |a::ls,ds::dss=>(∃xs,H a=some (.lst xs)/\AVs G xs ds)/\wq G H ls dss
 |_,_=>False
theorem wq.same {G c H H':Hp}(g:zw G c):∀{ls:List Addr}{dss:List (List PyData)},(∀a∈ls,∀o,H a=some o->H' a=some o)->wq G H ls dss->wq c H' ls dss
 |[],[],_,_=>trivial
 |a::ls,ds::dss,h,⟨⟨xs,e,av⟩,r⟩=>⟨⟨xs,h a zY9 _ e,av.same g⟩,wq.same g (λb hb=>h b (zY6 _ hb)) r⟩
 |[],_::_,_,z=>z.elim
 |_::_,[],_,z=>z.elim
theorem wq.obj {G H:Hp}:∀{ls:List Addr}{dss:List (List PyData)},wq G H ls dss->∀a∈ls,∃xs,H a=some (.lst xs)
 |[],_,_,_,h=>by cases h
 |b::ls,ds::dss,⟨⟨xs,e,_⟩,r⟩,a,h=>by
  rcases zY4.mp h with z|z
  ·exact⟨xs,z▸e⟩
  ·exact wq.obj r a z
 |_::_,[],z,_,_=>z.elim
theorem wq.avs {G H:Hp}{p:Addr->Prop}(g:zw G (sub p H)):∀{ls:List Addr}{dss:List (List PyData)},(∀a∈ls,p a)->wq G H ls dss->AVs (sub p H) (ls.map .ref) (dss.map .list)
 |[],[],_,_=>.nil
 |a::ls,ds::dss,h,⟨⟨xs,e,av⟩,r⟩=>.cons (.lst (zu (h a zY9) e) (av.same g)) (wq.avs g (λb hb=>h b (zY6 _ hb)) r)
 |[],_::_,_,z=>z.elim
 |_::_,[],_,z=>z.elim
def vp (G:Hp)(F:Fr)(H:Hp)(s:Option V):A->Prop
 |.dat d=>∃v,s=some v/\AV G v d
 |.ow c=>∃l o,s=some (.ref l)/\H l=some o/\yC G o c/\¬F.O0 l/\F.H0 l=none
 |.deep d S=>∃v,s=some v/\AV (uM S G H) v d/\∀x,S x->¬F.O0 x/\F.H0 x=none/\∃xs,H x=some (.lst xs)
 |.tape=>∃t b c,F.tp=some (t,b,c)/\s=some (.ref t)
 |.at l=>s=some (.ref l)
 |.exc r _=>Lnk r F H
 |.pin l vs ds=>s=some (.ref l)/\G l=some (.lst vs)/\AVs G vs ds
 |.nst l ls dss=>s=some (.ref l)/\H l=some (.lst (ls.map .ref))/\wq G H ls dss/\(l::ls).Nodup/\∀x∈l::ls,¬F.O0 x/\F.H0 x=none
structure M (F:Fr)(α:Ev)(σ:St)(H:Hp):Prop where
 len:α.length=σ.length
 ok:∀(i:Nat) (a:A) (s:Option V),α[i]?=some (some a)->σ[i]?=some s->vp (Gz F α σ H) F H s a
 dj:∀(i j:Nat) (a b:A) (s t:Option V) (x:Addr),α[i]?=some (some a)->α[j]?=some (some b)->σ[i]?=some s->σ[j]?=some t->foot s a x->foot t b x->i=j
 xd:∀(i:Nat) (r:Fr) (q:PyData->Prop),α[i]?=some (some (.exc r q))->∀(j:Nat) (a:A) (s:Option V) (x:Addr),α[j]?=some (some a)->σ[j]?=some s->foot s a x->r.H0 x=none
 tp:zD F H
 keep:Kz F F.H0 H
 oex:∀x,F.O0 x->∃o,H x=some o/\wt o
theorem M.at' {F:Fr}{α:Ev}{σ:St}{H:Hp}(m:M F α σ H){i:Nat}{a:Option A}(e:α[i]?=some a):∃s,σ[i]?=some s:=by
 have:i<σ.length:=by rw[<-m.len];exact(zX9.mp e).1
 exact⟨_,zY0 this⟩
theorem tQ {G:Hp}{F:Fr}{H:Hp}{s:Option V}{a:A}{x:Addr}(h:vp G F H s a)(f:foot s a x):¬F.O0 x/\F.H0 x=none/\∃o,H x=some o/\Ob o:=by
 cases a with
 |ow c=>
  obtain⟨l,o,j,k,g,m,i⟩:=h;have b:s=some (.ref x):=f;rw[b]at j;cases j;exact⟨m,i,o,k,g.ob⟩
 |deep d S=>
  obtain⟨v,j,k,g⟩:=h;obtain⟨p,n,xs,z3⟩:=g x f;exact⟨p,n,_,z3,trivial⟩
 |dat d=>exact f.elim
 |tape=>exact f.elim
 |«at» l=>exact f.elim
 |exc r q=>exact f.elim
 |pin l vs ds=>exact f.elim
 |nst l ls dss=>
  obtain⟨j,k,g,m,i⟩:=h;have b:x∈l::ls:=f;refine⟨(i x b).1,(i x b).2,?_⟩;rcases zY4.mp b with z|z
  ·exact⟨.lst (ls.map .ref),z▸k,trivial⟩
  ·obtain⟨xs,e⟩:=g.obj x z;exact⟨.lst xs,e,trivial⟩
theorem Lnk.kz {r F:Fr}{H H':Hp}(l:Lnk r F H)(k:Kz F H H')(t:zD F H'):Lnk r F H':=⟨l.tp,l.o,l.ok.re t l.tp.symm,λx o e n=>k x o (l.k x o e n) ⟨λa b c z=>n.1 a b c (l.tp.trans z),n.2⟩⟩
theorem Lnk.none {r F:Fr}{H:Hp}(l:Lnk r F H){x:Addr}(h:H x=Option.none):r.H0 x=Option.none:=by
 cases q:r.H0 x with
 |none=>rfl
 |some o=>rw[l.k x o q ⟨λa b c e=>⟨((l.ok a b c e).1.free h).1,((l.ok a b c e).1.free h).2.1⟩,lP l.ok.tab h⟩]at h;cases h
def noX :A->Prop
 |.exc _ _=>False
 |_=>True
theorem vp.stay {G u:Hp}{F F':Fr}{H H':Hp}{s:Option V}{a:A}(h:vp G F H s a)(g:zw G u)(hf:∀x o,foot s a x->H x=some o->H' x=some o/\¬F'.O0 x/\F'.H0 x=none)(y:F'.tp=F.tp)(B:∀r q,a=.exc r q->Lnk r F H->Lnk r F' H'):vp u F' H' s a:=by
 cases a with
 |dat d=>obtain⟨v,f,i⟩:=h;exact⟨v,f,i.same g⟩
 |ow c=>
  obtain⟨l,o,f,i,j,p,w⟩:=h;obtain⟨m,k,z3⟩:=hf l o f i;exact⟨l,o,f,m,j.same g,k,z3⟩
 |deep d S=>
  obtain⟨v,f,i,j⟩:=h;refine⟨v,f,i.same (uI g λx o z e=>(hf x o z e).1),λx z=>?_⟩;obtain⟨_,_,xs,e⟩:=j x z;obtain⟨m,k,z3⟩:=hf x _ z e;exact⟨k,z3,xs,m⟩
 |tape=>obtain⟨t,b,c,e,z⟩:=h;exact⟨t,b,c,y.trans e,z⟩
 |«at» l=>exact h
 |exc r q=>exact B r q rfl h
 |pin l vs ds=>exact⟨h.1,g _ _ h.2.1,h.2.2.same g⟩
 |nst l ls dss=>
  obtain⟨f,i,j,p,w⟩:=h;refine⟨f,(hf l _ zY9 i).1,j.same g λa ha o e=>(hf a o (zY6 _ ha) e).1,p,λx n=>?_⟩;rcases zY4.mp n with z|z
  ·exact(hf x _ n (z▸i)).2
  ·obtain⟨xs,e⟩:=j.obj x z;exact(hf x _ n e).2
section
variable {F:Fr}{α:Ev}{σ:St}{H H' H'':Hp}
theorem M.dat (m:M F α σ H)(i:Nat)(d:PyData)(e:α[i]?=some (some (.dat d))):∃v,σ[i]?=some (some v)/\AV (Gz F α σ H) v d:=by
 obtain⟨s,a⟩:=m.at' e;obtain⟨v,rfl,h⟩:=m.ok i _ s e a;exact⟨v,a,h⟩
theorem M.owc (m:M F α σ H)(i:Nat)(c:PyData)(e:α[i]?=some (some (.ow c))):∃l o,σ[i]?=some (some (.ref l))/\H l=some o/\yC (Gz F α σ H) o c/\¬F.O0 l/\F.H0 l=none:=by
 obtain⟨s,a⟩:=m.at' e;obtain⟨l,o,rfl,h⟩:=m.ok i _ s e a;exact⟨l,o,a,h⟩
theorem M.own (m:M F α σ H)(i:Nat)(ds:List PyData)(e:α[i]?=some (some (.own ds))):∃l xs,σ[i]?=some (some (.ref l))/\H l=some (.lst xs)/\AVs (Gz F α σ H) xs ds/\¬F.O0 l/\F.H0 l=none:=by
 obtain⟨l,o,d,a,f,c⟩:=m.owc i _ e;obtain⟨xs,rfl,b⟩:=f.lst_inv;exact⟨l,xs,d,a,b,c⟩
theorem M.dic (m:M F α σ H)(i:Nat)(ds:List (PyData×PyData))(e:α[i]?=some (some (.dic ds))):∃l xs,σ[i]?=some (some (.ref l))/\H l=some (.dK xs)/\AVk (Gz F α σ H) xs ds/\¬F.O0 l/\F.H0 l=none:=by
 obtain⟨l,o,d,a,f,c⟩:=m.owc i _ e;obtain⟨xs,rfl,b⟩:=f.dk_inv;exact⟨l,xs,d,a,b,c⟩
theorem M.deep (m:M F α σ H)(i:Nat)(d:PyData)(S:Addr->Prop)(e:α[i]?=some (some (.deep d S))):∃v,σ[i]?=some (some v)/\AV (uM S (Gz F α σ H) H) v d/\∀x,S x->¬F.O0 x/\F.H0 x=none/\∃xs,H x=some (.lst xs):=by
 obtain⟨s,a⟩:=m.at' e;obtain⟨v,rfl,h⟩:=m.ok i _ s e a;exact⟨v,a,h⟩
theorem M.tvar (m:M F α σ H)(i:Nat)(e:α[i]?=some (some .tape)):∃t b c,F.tp=some (t,b,c)/\σ[i]?=some (some (.ref t)):=by
 obtain⟨s,a⟩:=m.at' e;obtain⟨t,b,c,h,rfl⟩:=m.ok i _ s e a;exact⟨t,b,c,h,a⟩
theorem M.lnk (m:M F α σ H){i:Nat}{r:Fr}{q:PyData->Prop}(e:α[i]?=some (some (.exc r q))):Lnk r F H:=by
 obtain⟨s,a⟩:=m.at' e;exact m.ok i _ s e a
theorem Kz.refl :Kz F H H:=λ_ _ e _=>e
theorem Kz.trans (h:Kz F H H')(k:Kz F H' H''):Kz F H H'':=λx o e n=>k x o (h x o e n) n
theorem Kz.of_same (h:zw H H'):Kz F H H':=λx o e _=>h x o e
theorem zD.same (t:zD F H)(h:zw H H'):zD F H':=⟨ag t.tab h,t.ot,λa b c e=>⟨gn (t a b c e).1 h,(t a b c e).2⟩⟩
theorem zD.nt (t:zD F H){x:Addr}(h:¬F.O0 x):NT F x:=⟨λa b c e=>⟨λz=>h (z▸(t a b c e).2.1),λz=>h (z▸(t a b c e).2.2.1)⟩,λz=>h (t.ot x z)⟩
theorem ow0 {x:Addr}(h:¬Ow F α σ x):¬F.O0 x:=λz=>h (.inl z)
theorem Kz.gz (k:Kz F H H')(t:zD F H):zw (Gz F α σ H) (Gz F α σ H'):=zm λa o h e=>⟨h,k a o e (t.nt (ow0 h))⟩
theorem M.oex' (t:zD F H')(k:Kz F H H')(h:∀x,F.O0 x->∃o,H x=some o/\wt o):∀x,F.O0 x->∃o,H' x=some o/\wt o:=λx i=>by
 by_cases n:NT F x
 ·obtain⟨o,d,hn⟩:=h x i;exact⟨o,k _ _ d n,hn⟩
 ·by_cases z:qc x
  ·obtain⟨o,d,hn,_⟩:=pQ t.tab z;exact⟨o,d,hn⟩
  ·have:∃a b c,F.tp=some (a,b,c)/\¬(x≠a/\x≠b):=by
    refine Classical.byContradiction λq=>n ⟨λa b c e=>?_,z⟩;exact Classical.byContradiction λw=>q ⟨a,b,c,e,w⟩
   obtain⟨a,b,c,e,w⟩:=this;obtain⟨n,bs,cs,_,e1,j,l,_⟩:=(t a b c e).1.ex;by_cases g:x=a
   ·exact⟨_,g▸e1,yQ⟩
   ·by_cases f:x=b
    ·exact⟨_,f▸j,yQ⟩
    ·exact absurd ⟨g,f⟩ w
theorem M.kz (m:M F α σ H)(k:Kz F H H')(t:zD F H'):M F α σ H' where
 len:=m.len
 ok:=λi a s e1 c=>(m.ok i a s e1 c).stay (k.gz m.tp) (λx o hf e=>by
  obtain⟨b,d,_⟩:=tQ (m.ok i a s e1 c) hf;exact⟨k x o e (m.tp.nt b),b,d⟩) rfl λr _ _ l=>l.kz k t
 dj:=m.dj
 xd:=m.xd
 tp:=t
 keep:=m.keep.trans k
 oex:=M.oex' t k m.oex
theorem M.ft (m:M F α σ H){i:Nat}{a:A}{s:Option V}{x:Addr}(e1:α[i]?=some (some a))(b:σ[i]?=some s)(f:foot s a x):¬F.O0 x/\F.H0 x=none/\∃o,H x=some o/\Ob o:=tQ (m.ok i a s e1 b) f
theorem M.owEx (m:M F α σ H){x:Addr}(h:Ow F α σ x):∃o,H x=some o/\wt o:=by
 rcases h with z|⟨i,a,s,e1,c,f⟩
 ·exact m.oex x z
 ·obtain⟨_,_,o,b,hb⟩:=m.ft e1 c f;exact⟨o,b,hb.notup⟩
theorem M.fresh (m:M F α σ H){l:Addr}(h:H l=none):¬Ow F α σ l:=λz=>by
 obtain⟨o,a,_⟩:=m.owEx z;rw[h]at a;cases a
theorem M.fresh0 (m:M F α σ H){l:Addr}(h:H l=none):F.H0 l=none:=by
 cases q:F.H0 l with
 |none=>rfl
 |some o=>rw[m.keep l o q (m.tp.nt λz=>m.fresh h (.inl z))]at h;cases h
theorem M.old (m:M F α σ H):zw (sub (λx=>¬F.O0 x) F.H0) (Gz F α σ H):=λa o e=>by
 obtain⟨d,c⟩:=zb e;refine zu ?_ (m.keep a o c (m.tp.nt d));rintro(z|⟨i,b,s,e1,g,f⟩)
 ·exact d z
 ·obtain⟨_,z,_⟩:=m.ft e1 g f;rw[c]at z;cases z
noncomputable def Fr.up (F:Fr)(G:Hp):Fr:={F with H0:=λx=>(F.H0 x).or (G x)}
theorem pO {G:Hp}{x:Addr}{o:HO}(h:F.H0 x=some o):(F.up G).H0 x=some o:=by show(F.H0 x).or (G x)=some o;rw[h];rfl
theorem ik {G:Hp}{x:Addr}(h:(F.up G).H0 x=none):F.H0 x=none:=by
 cases q:F.H0 x with
 |none=>rfl
 |some o=>rw[pO q]at h;cases h
theorem M.up (m:M F α σ H):M (F.up (Gz F α σ H)) α σ H where
 len:=m.len
 ok:=λi a s e1 c=>(m.ok i a s e1 c).stay (λ_ _ e=>e) (λx o hf e=>by
  obtain⟨f,d,_⟩:=m.ft e1 c hf;refine⟨e,f,?_⟩;show(F.H0 x).or (Gz F α σ H x)=none;rw[d];show Gz F α σ H x=none;cases q:Gz F α σ H x with
  |none=>rfl
  |some o=>exact absurd (.inr ⟨i,a,s,e1,c,hf⟩) (zb q).1) rfl λr _ _ l=>⟨l.tp,l.o,l.ok,l.k⟩
 dj:=m.dj
 xd:=m.xd
 tp:=m.tp.to rfl λ_ z=>z
 keep:=λx o e n=>by
  have b:(F.H0 x).or (Gz F α σ H x)=some o:=e;cases q:F.H0 x with
  |none=>rw[q,Option.none_or]at b;exact(zb b).2
  |some o'=>rw[q]at b;cases b;exact m.keep x _ q n
 oex:=m.oex
theorem M.down {G:Hp}(m:M (F.up G) α σ H):M F α σ H where
 len:=m.len
 ok:=λi a s e1 b=>(m.ok i a s e1 b).stay (λ_ _ e=>e) (λx o hf e=>by
  obtain⟨d,c,_⟩:=m.ft e1 b hf;exact⟨e,d,ik c⟩) rfl λr _ _ l=>⟨l.tp,l.o,l.ok,l.k⟩
 dj:=m.dj
 xd:=m.xd
 tp:=m.tp.to rfl λ_ z=>z
 keep:=λx o e n=>m.keep x o (pO e) n
 oex:=m.oex
theorem M.upold {c:Ev}{b:St}{H1:Hp}(m0:M F c b H1)(m:M (F.up (Gz F c b H1)) α σ H):zw (Gz F c b H1) (Gz F α σ H):=λa o e=>by
 obtain⟨d,f⟩:=zb e;have g:(F.up (Gz F c b H1)).H0 a=some o:=by
  show(F.H0 a).or (Gz F c b H1 a)=some o;cases q:F.H0 a with
  |none=>exact e
  |some o'=>
   have:=m0.keep a o' q (m0.tp.nt (ow0 d));rw[f]at this;cases this;rfl
 exact m.old a o (zu (p:=λx=>¬F.O0 x) (ow0 d) g)
end
def yK (F:Fr)(α:Ev)(σ:St)(H:Hp)(v:V)(H':Hp)(ds:List PyData):Prop:=
 ∃l xs,v=.ref l/\H l=none/\H' l=some (.lst xs)/\AVs (sub (λx=>¬Ow F α σ x/\x≠l) H') xs ds
def kr (F:Fr)(α:Ev)(σ:St)(H:Hp)(v:V)(H':Hp)(c:PyData):Prop:=
 ∃l o,v=.ref l/\H l=none/\H' l=some o/\yC (sub (λx=>¬Ow F α σ x/\x≠l) H') o c
theorem yK.c {F:Fr}{α:Ev}{σ:St}{H H':Hp}{v:V}{ds:List PyData}(h:yK F α σ H v H' ds):kr F α σ H v H' (.list ds):=by
 obtain⟨l,xs,d,a,e,b⟩:=h;exact⟨l,_,d,a,e,.lst b⟩
theorem yK.av {F:Fr}{α:Ev}{σ:St}{H H':Hp}{v:V}{ds:List PyData}(m:M F α σ H)(h:yK F α σ H v H' ds):AV (Gz F α σ H') v (.list ds):=by
 obtain⟨l,xs,rfl,c,b,d⟩:=h;exact .lst (zu (m.fresh c) b) (d.same (zm λa o h e=>⟨h.1,e⟩))
section
variable (X:Cx)(α:Ev)
def EvD (e:Expr)(Q:PyData->Prop):Prop:=∀(F:Fr) (σ:St) (H:Hp) (R:VK),M F α σ H->(∀d v H',Q d->zD F H'->Kz F H H'->AV (Gz F α σ H') v d->R v H')->uF X e σ H R
def EvL (e:Expr)(Q:List PyData->Prop):Prop:=∀(F:Fr) (σ:St) (H:Hp) (R:VK),M F α σ H->(∀ds v H',Q ds->zD F H'->Kz F H H'->yK F α σ H v H' ds->R v H')->uF X e σ H R
def EvC (e:Expr)(Q:PyData->Prop):Prop:=∀(F:Fr) (σ:St) (H:Hp) (R:VK),M F α σ H->(∀c v H',Q c->zD F H'->Kz F H H'->kr F α σ H v H' c->R v H')->uF X e σ H R
def EvT (e:Expr)(Q:Bool->Prop):Prop:=∀(F:Fr) (σ:St) (H:Hp) (R:Bool->Hp->Prop),M F α σ H->(∀b H',Q b->zD F H'->Kz F H H'->R b H')->zQ2 X e σ H R
def fG (F:Fr)(G:Hp)(v:V):A->Prop
 |.dat d=>AV G v d
 |.tape=>∃t b c,F.tp=some (t,b,c)/\v=.ref t
 |_=>False
inductive zV (F:Fr)(G:Hp):List V->List A->Prop where
 |nil:zV F G [] []
 |cons {v:V}{vs:List V}{a:A}{as:List A}:fG F G v a->zV F G vs as->zV F G (v::vs) (a::as)
def EvA (a:List Expr)(Q:List A->Prop):Prop:=∀(F:Fr) (σ:St) (H:Hp) (R:List V->Hp->Prop),M F α σ H->(∀as vs H',Q as->zD F H'->Kz F H H'->zV F (Gz F α σ H') vs as->R vs H')->zF0 X a σ H R
end
theorem fG.to {F F':Fr}{G d:Hp}(s:zw G d)(f:F'.tp=F.tp){v:V}:∀{a:A},fG F G v a->fG F' d v a
 |.dat _,h=>AV.same s h
 |.tape,⟨t,b,c,e,z⟩=>⟨t,b,c,f.trans e,z⟩
 |.ow _,h=>h
 |.deep _ _,h=>h
 |.at _,h=>h
 |.exc _ _,h=>h
 |.pin _ _ _,h=>h
 |.nst _ _ _,h=>h
theorem zV.to {F F':Fr}{G a:Hp}(s:zw G a)(b:F'.tp=F.tp){vs:List V}{as:List A}(h:zV F G vs as):zV F' a vs as:=by
 induction h with
 |nil=>exact .nil
 |cons h _ c=>exact .cons (h.to s b) c
theorem zV.length {F:Fr}{G:Hp}:∀{vs:List V}{as:List A},zV F G vs as->vs.length=as.length
 |_,_,.nil=>rfl
 |_,_,.cons _ r=>by rw[z00,z00,zV.length r]
def A.d :A->PyData
 |.dat d=>d
 |.ow c=>c
 |.deep d _=>d
 |.nst _ _ dss=>.list (dss.map .list)
 |_=>.none
def zb6 (F:Fr)(v:V)(H':Hp):A->Prop
 |.dat d=>AV (sub (λx=>¬F.O0 x) H') v d
 |.ow c=>∃l xs ds,v=.ref l/\c=.list ds/\F.H0 l=none/\¬F.O0 l/\H' l=some (.lst xs)/\AVs (sub (λx=>¬F.O0 x/\x≠l) H') xs ds
 |.deep d S=>AV (uM S (sub (λx=>¬F.O0 x) H') H') v d/\∀x,S x->¬F.O0 x/\F.H0 x=none/\∃xs,H' x=some (.lst xs)
 |.nst l ls dss=>v=.ref l/\H' l=some (.lst (ls.map .ref))/\wq (sub (λx=>¬F.O0 x/\x∉l::ls) H') H' ls dss/\(l::ls).Nodup/\∀x∈l::ls,¬F.O0 x/\F.H0 x=none
 |_=>False
def wO (F:Fr)(v:V)(H':Hp)(a:A):Prop:=zD F H'/\Kz F F.H0 H'/\zb6 F v H' a
def spA (φ:List A->(A->Prop)->Prop):Sp:=λvs H b _=>∃(F:Fr) (as:List A) (Q:A->Prop),F.H0=H/\zD F H/\(∀x,F.O0 x->∃o,H x=some o/\wt o)/\zV F (sub (λx=>¬F.O0 x) H) vs as/\φ as Q/\∀a v H',Q a->wO F v H' a->b v H'
theorem zb6.to {F F':Fr}{v:V}{H':Hp}{a:A}(r:zb6 F v H' a)(b:∀x,F'.O0 x->F.O0 x)(h0:∀x,F.H0 x=none->F'.H0 x=none):zb6 F' v H' a:=by
 have s:zw (sub (λx=>¬F.O0 x) H') (sub (λx=>¬F'.O0 x) H'):=zm λa o h e=>⟨λz=>h (b _ z),e⟩;cases a with
 |dat d=>exact AV.same s r
 |ow c=>
  obtain⟨l,xs,ds,f,q,g,k,j,i⟩:=r;exact⟨l,xs,ds,f,q,h0 _ g,λz=>k (b _ z),j,i.same (zm λa o h e=>⟨⟨λz=>h.1 (b _ z),h.2⟩,e⟩)⟩
 |deep d S=>
  obtain⟨f,g⟩:=r;refine⟨f.same (uI s λ_ _ _ e=>e),λx z=>?_⟩;obtain⟨p,n,z3⟩:=g x z;exact⟨λw=>p (b _ w),h0 _ n,z3⟩
 |tape=>exact r
 |«at» _=>exact r
 |exc _ _=>exact r
 |pin _ _ _=>exact r
 |nst l ls dss=>
  obtain⟨f,g,k,j,i⟩:=r;exact⟨f,g,k.same (zm λa o h e=>⟨⟨λz=>h.1 (b _ z),h.2⟩,e⟩) (λ_ _ _ e=>e),j,λx m=>⟨λz=>(i x m).1 (b _ z),h0 _ (i x m).2⟩⟩
structure yp where
 nx:Ev->Prop
 rt:A->Prop
 bk:Ev->Prop:=λ_=>False
 ct:Ev->Prop:=λ_=>False
structure mi (F:Fr)(E:yp)(D:Ends):Prop where
 nx:∀α σ H,M F α σ H->E.nx α->D.nx σ H
 rt:∀a v H,wO F v H a->E.rt a->D.rt v H
 bk:∀α σ H,M F α σ H->E.bk α->D.bk σ H
 ct:∀α σ H,M F α σ H->E.ct α->D.ct σ H
def SvS (X:Cx)(α:Ev)(a:List Stmt)(E:yp):Prop:=∀(F:Fr) (σ:St) (H:Hp) (D:Ends),M F α σ H->mi F E D->ja X a D σ H
theorem mi.up {F:Fr}{G:Hp}{E:yp}{D:Ends}(e:mi F E D):mi (F.up G) E D where
 nx:=λα σ H m q=>e.nx α σ H m.down q
 bk:=λα σ H m q=>e.bk α σ H m.down q
 ct:=λα σ H m q=>e.ct α σ H m.down q
 rt:=λa v H r q=>e.rt a v H (by
  obtain⟨t,k,r⟩:=r;exact⟨t.to rfl λ_ z=>z,λx o e n=>k x o (pO e) n,r.to (λ_ z=>z) λx z=>ik z⟩) q
section
variable {X:Cx}{α:Ev}{e a b c:Expr}{es:List Expr}{pos p q:Pos}{Q:PyData->Prop}
theorem EvL.d (h:EvL X α e (λds=>Q (.list ds))):EvD X α e Q:=λF σ H R m k=>h F σ H R m λds v H' q t z f=>k _ v H' q t z (f.av m)
theorem EvD.imp {f:PyData->Prop}(h:EvD X α e f)(k:∀d,f d->Q d):EvD X α e Q:=λF σ H R m r=>h F σ H R m λd v H' q=>r d v H' (k d q)
theorem zj (i:Nat){x:Str}{d:PyData}(hi:α[i]?=some (some (.dat d)))(q:Q d)(l:X.N[i]?=some x:=by rfl)(h:Vis X.env.scope x:=by first|exact Or.inl rfl|exact Or.inr (Or.inl rfl)|exact Or.inr (Or.inr rfl))
  (hd:(x == ("__debug__":Str))=false:=by decide) (f:(x == ("__classdict__":Str))=false:=by decide):EvD X α (.Name x pos) Q:=λF σ H R m k=>by
 obtain⟨v,j,g⟩:=m.dat i d hi;exact⟨_,yF l h hd f,v,j,k d v H q m.tp Kz.refl g⟩
theorem vQ {i:Int}{j:Nat}(q:Q (.int i)):EvD X α (.Constant (.int i) j pos) Q:=λF σ H R m k=>⟨_,zt,k _ _ H q m.tp Kz.refl (.int i)⟩
theorem zy8 {i:Bool}{j:Nat}(q:Q (.bool i)):EvD X α (.Constant (.bool i) j pos) Q:=λF σ H R m k=>⟨_,zQ8,k _ _ H q m.tp Kz.refl (.bl i)⟩
theorem si {j:Nat}(q:Q .none):EvD X α (.Constant .none j pos) Q:=λF σ H R m k=>⟨_,cY,k _ _ H q m.tp Kz.refl .non⟩
theorem vY {x:Str}{j:Nat}(q:Q (.str x)):EvD X α (.Constant (.str x) j pos) Q:=λF σ H R m k=>⟨_,zF4,k _ _ H q m.tp Kz.refl (.str x)⟩
theorem xZ {x:Str}{i:Int}(hg:Gl X x)(hm:∃t,X.mg x=some (.int i t))(q:Q (.int i))(hd:(x == ("__debug__":Str))=false:=by decide):EvD X α (.Name x pos) Q:=λF σ H R m k=>by
 obtain⟨t,hm⟩:=hm;exact⟨_,zi2 hg hm (show RelV (.int i) (.int i t)from⟨t,rfl⟩) hd,k _ _ H q m.tp Kz.refl (.int i)⟩
theorem sU {f:TE->TE->TE}(hf:PE X e (f (uF X a) (uF X b)))(hr:∀σ H R,f (uF X a) (uF X b) σ H R↔uF X a σ H (λx H1=>uF X b σ H1 λy j=>f (tC x) (tC y) σ j R))
  (h:EvD X α a λx=>EvD X α b λy=>∀(F:Fr) (σ:St) (H:Hp) (g i:V) (R:VK),M F α σ H->AV (Gz F α σ H) g x->AV (Gz F α σ H) i y->(∀d v H',Q d->zD F H'->Kz F H H'->AV (Gz F α σ H') v d->R v H')->f (tC g) (tC i) σ H R):
  EvD X α e Q:=λF σ H R m k=>by
 refine⟨_,hf,(hr σ H R).mpr ?_⟩;refine h F σ H _ m λx g H1 n t1 k1 o=>?_;have m1:=m.kz k1 t1;refine n F σ H1 _ m1 λy i j l t2 k2 r=>?_;exact l F σ j g i R (m1.kz k2 t2) (o.same (k2.gz m1.tp)) r λd v H' s t3 k3 t=>k d v H' s t3 ((k1.trans k2).trans k3) t
theorem AV.int_inv {H:Hp}{v:V}{i:Int}(h:AV H v (.int i)):v=.int i:=by cases h;rfl
theorem AV.bl_inv {H:Hp}{v:V}{i:Bool}(h:AV H v (.bool i)):v=.bl i:=by cases h;rfl
theorem AV.str_inv {H:Hp}{v:V}{i:Str}(h:AV H v (.str i)):v=.str i:=by cases h;rfl
theorem AV.tup_inv {H:Hp}{v:V}{ds:List PyData}(h:AV H v (.tuple ds)):∃a xs,v=.ref a/\H a=some (.tup xs)/\AVs H xs ds:=by cases h;exact⟨_,_,rfl,by assumption,by assumption⟩
theorem AV.lst_inv {H:Hp}{v:V}{ds:List PyData}(h:AV H v (.list ds)):∃a xs,v=.ref a/\H a=some (.lst xs)/\AVs H xs ds:=by cases h;exact⟨_,_,rfl,by assumption,by assumption⟩
theorem AV.non_inv {H:Hp}{v:V}(h:AV H v .none):v=.non:=by cases h;rfl
theorem AV.isnon {H:Hp}{v:V}{d:PyData}(h:AV H v d):decide (v=.non)=(match d with|.none=>true|_=>false):=by cases h<;>simp
theorem zH5 {op:Operator}{C:Int->Int->Prop}{g:Int->Int->V}{gd:Int->Int->PyData}(r:OpR X (binaryOp op) (rI C g))(hg:∀H i j,AV H (g i j) (gd i j))
  (h:EvD X α a λx=>EvD X α b λy=>∃i j,x=.int i/\y=.int j/\C i j/\Q (gd i j)):EvD X α (.BinOp a op b pos) Q:=by
 refine sU (f:=tOp (rI C g)) (yk r zg zg) (λ_ _ _=>Iff.rfl) (h.imp λx h=>h.imp λy d=>?_);obtain⟨i,j,e1,s,l,hq⟩:=d;subst e1 s;intro F σ H t u R m o n k;cases o.int_inv;cases n.int_inv;exact⟨i,j,rfl,rfl,l,k _ _ H hq m.tp Kz.refl (hg _ i j)⟩
theorem jP {op:Operator}{g:Int->Int->V}{gd:Int->Int->PyData}(o:OpR X (binaryOp op) (rI0 g))(hg:∀H i j,AV H (g i j) (gd i j))
  (h:EvD X α a λx=>EvD X α b λy=>∃i j,x=.int i/\y=.int j/\Q (gd i j)):EvD X α (.BinOp a op b pos) Q:=by
 refine sU (f:=tOp (rI0 g)) (yk o zg zg) (λ_ _ _=>Iff.rfl) (h.imp λx h=>h.imp λy d=>?_);obtain⟨i,j,e1,r,hq⟩:=d;subst e1 r;intro F σ H s t R m n l k;cases n.int_inv;cases l.int_inv;exact⟨i,j,rfl,rfl,k _ _ H hq m.tp Kz.refl (hg _ i j)⟩
theorem zD4 (h:EvD X α a λx=>EvD X α b λy=>∃i j,x=.int i/\y=.int j/\Q (.int (i+j))):EvD X α (.BinOp a .Add b pos) Q:=jP (gd:=λi j=>.int (i+j)) uX (λ_ _ _=>.int _) h
theorem zE3 (h:EvD X α a λx=>EvD X α b λy=>∃i j,x=.int i/\y=.int j/\Q (.int (i-j))):EvD X α (.BinOp a .Sub b pos) Q:=jP (gd:=λi j=>.int (i-j)) zC9 (λ_ _ _=>.int _) h
theorem zH2 (h:EvD X α a λx=>EvD X α b λy=>∃i j,x=.int i/\y=.int j/\zH0 i j/\Q (.int (i ^ j.toNat))):EvD X α (.BinOp a .Pow b pos) Q:=zH5 (gd:=λi j=>.int (i ^ j.toNat)) bX (λ_ _ _=>.int _) h
theorem oP {i j r:Int}{p1 p2:Pos}{n1 f:Nat}(d:zH0 i j)(hr:i ^ j.toNat=r)(q:Q (.int r)):EvD X α (.BinOp (.Constant (.int i) n1 p1) .Pow (.Constant (.int j) f p2) pos) Q:=
 zH2 (vQ (vQ ⟨i,j,rfl,rfl,d,hr▸q⟩))
theorem zG9 (h:EvD X α a λx=>∃i,x=.int i/\Q (.int (-i))):EvD X α (.UnaryOp .USub a pos) Q:=λF σ H R m k=>by
 refine⟨_,zr9 aX zg,?_⟩;refine h F σ H _ m λx g H1 d t1 k1 f=>?_;obtain⟨i,rfl,q⟩:=d;cases f.int_inv;exact⟨i,rfl,k _ _ H1 q t1 k1 (.int _)⟩
theorem iE {op:CmpOp}{g:Int->Int->Bool}(o:OpR X (compareOp op) (rI0 λi j=>.bl (g i j)))(hm:behindInMarks op b=false)
  (h:EvD X α a λx=>EvD X α b λy=>∃i j,x=.int i/\y=.int j/\Q (.bool (g i j))):EvD X α (.Compare a [op] [b] pos) Q:=by
 refine sU (f:=tOp (rI0 λi j=>.bl (g i j))) (oZ o zg zg hm) (λ_ _ _=>Iff.rfl) (h.imp λx h=>h.imp λy d=>?_);obtain⟨i,j,e1,r,hq⟩:=d;subst e1 r;intro F σ H s t R m n l k;cases n.int_inv;cases l.int_inv;exact⟨i,j,rfl,rfl,k _ _ H hq m.tp Kz.refl (.bl _)⟩
theorem zQ6 (h:EvD X α a λx=>EvD X α b λy=>∃i j,x=.int i/\y=.int j/\Q (.bool (decide (i<j)))):EvD X α (.Compare a [.Lt] [b] pos) Q:=iE zv9 (yt _) h
theorem zM7 (h:EvD X α a λx=>EvD X α b λy=>∃i j,x=.int i/\y=.int j/\Q (.bool (decide (i<=j)))):EvD X α (.Compare a [.LtE] [b] pos) Q:=iE zb0 (yt _) h
def xE :PyData->Bool
 |.none=>true
 |_=>false
theorem AV.non_iff {H:Hp}{v:V}{d:PyData}(h:AV H v d):decide (v=.non)=xE d:=by cases h<;>simp[xE]
theorem zI5 {j:Nat}(h:EvD X α a λx=>Q (.bool (xE x))):EvD X α (.Compare a [.Is] [.Constant .none j p] pos) Q:=λF σ H R m k=>by
 refine⟨_,oZ zb4 zg cY (yt _),?_⟩;refine h F σ H _ m λx g H1 d t1 k1 f=>⟨rfl,?_⟩;rw[f.non_iff];exact k _ _ H1 d t1 k1 (.bl _)
theorem aj {op d:CmpOp}{g g':Int->Int->Bool}(A:OpR X (compareOp op) (rI0 λi j=>.bl (g i j)))(l:OpR X (compareOp d) (rI0 λi j=>.bl (g' i j)))(hm:lastMarks [op,d] [b,c]=false)
  (h:EvD X α a λx=>EvD X α b λy=>∃i j,x=.int i/\y=.int j/\(if g i j=true then EvD X α c λz=>∃k,z=.int k/\Q (.bool (g' j k))else Q (.bool false))):EvD X α (.Compare a [op,d] [b,c] pos) Q:=λF σ H R m k=>by
 refine⟨_,dZ A l zg zg zg hm,?_⟩;refine h F σ H _ m λx E H1 v t1 k1 s=>?_;have m1:=m.kz k1 t1;refine v F σ H1 _ m1 λy D n r t2 k2 w=>?_;obtain⟨i,j,e1,u,hq⟩:=r;subst e1 u;cases s.int_inv;cases w.int_inv;have m2:=m1.kz k2 t2;refine⟨i,j,rfl,rfl,_,rfl,?_⟩;cases hg:g i j with
 |true=>
  rw[hg]at hq;refine oM ?_;refine(by simpa using hq:EvD X α c _) F σ n _ m2 λz C H3 B t3 k3 t=>?_;obtain⟨o,rfl,f⟩:=B;cases t.int_inv;exact⟨j,o,rfl,rfl,k _ _ H3 f t3 ((k1.trans k2).trans k3) (.bl _)⟩
 |false=>
  rw[hg]at hq;exact oC (k _ _ n (by simpa using hq) t2 (k1.trans k2) (.bl _))
theorem bq {Q:Bool->Prop}(h:EvD X α e λx=>∃k,x=.bool k/\Q k)(he:∀whole,isTrue e X.env whole=(do let v <-whole;standAt e.pos;holding [v] (truthy v)):=by intro _;rfl):EvT X α e Q:=λF σ H R m k=>by
 refine⟨_,zB3 zg he,?_⟩;refine h F σ H _ m λx g H1 d t1 k1 f=>?_;obtain⟨b,rfl,q⟩:=d;cases f.bl_inv;exact⟨b,rfl,k b H1 q t1 k1⟩
def Cmp (r:R2)(x y:PyData)(k:Bool):Prop:=∀(p:Addr->Prop) (H:Hp) (d f:V) (R:VK),AV (sub p H) d x->AV (sub p H) f y->R (.bl k) H->r d f H R
theorem xU {op:CmpOp}{r:R2}{Q:Bool->Prop}(n:OpR X (compareOp op) r)(hm:behindInMarks op b=false)(h:EvD X α a λx=>EvD X α b λy=>∃k,Cmp r x y k/\Q k):EvT X α (.Compare a [op] [b] pos) Q:=λF σ H R m k=>by
 refine⟨_,vC n zg zg hm,?_⟩;refine h F σ H _ m λx o H1 i t1 k1 j=>?_;have m1:=m.kz k1 t1;refine i F σ H1 _ m1 λy s d g t2 k2 l=>?_;obtain⟨b,f,q⟩:=g;exact f _ d o s _ (j.same (k2.gz m1.tp)) l ⟨b,rfl,k b d q t2 (k1.trans k2)⟩
theorem zh0 {g:Int->Int->Bool}{i j:Int}:Cmp (rI0 λi j=>.bl (g i j)) (.int i) (.int j) (g i j):=λp H k l R f d h=>by
 cases f.int_inv;cases d.int_inv;exact⟨i,j,rfl,rfl,h⟩
theorem iI {op:CmpOp}{g:Int->Int->Bool}{Q:Bool->Prop}(f:OpR X (compareOp op) (rI0 λi j=>.bl (g i j)))(hm:behindInMarks op b=false)
  (h:EvD X α a λx=>EvD X α b λy=>∃i j,x=.int i/\y=.int j/\Q (g i j)):EvT X α (.Compare a [op] [b] pos) Q:=
 xU f hm (h.imp λx h=>h.imp λy d=>by obtain⟨i,j,e1,k,q⟩:=d;exact⟨_,by subst e1 k;exact zh0,q⟩)
theorem zK0 {Q:Bool->Prop}(h:EvD X α a λx=>EvD X α b λy=>∃i j,x=.int i/\y=.int j/\Q (decide (i<j))):EvT X α (.Compare a [.Lt] [b] pos) Q:=iI zv9 (yt _) h
theorem zx3 {Q:Bool->Prop}(h:EvD X α a λx=>EvD X α b λy=>∃i j,x=.int i/\y=.int j/\Q (decide (j<i))):EvT X α (.Compare a [.Gt] [b] pos) Q:=iI iY (yt _) h
theorem oR {j:Nat}{Q:Bool->Prop}(h:EvD X α a λx=>Q (xE x)):EvT X α (.Compare a [.Is] [.Constant .none j p] pos) Q:=
 xU zb4 (yt _) (h.imp λx h=>si ⟨_,λp H g i R f d z=>⟨d.non_inv,by rw[f.non_iff];exact z⟩,h⟩)
theorem zr5 {j:Nat}{Q:Bool->Prop}(h:EvD X α a λx=>Q (!xE x)):EvT X α (.Compare a [.IsNot] [.Constant .none j p] pos) Q:=
 xU zj9 (yt _) (h.imp λx h=>si ⟨_,λp H g i R f d z=>⟨d.non_inv,by rw[f.non_iff];exact z⟩,h⟩)
def zP1 :PyData->Option Bool
 |.none=>some false
 |.bool b=>some b
 |.int i=>some (i != 0)
 |.list ds=>some (!ds.isEmpty)
 |.tuple ds=>some (!ds.isEmpty)
 |_=>none
theorem AVs.isEmpty {H:Hp}{xs:List V}{ds:List PyData}(h:AVs H xs ds):xs.isEmpty=ds.isEmpty:=by cases h<;>rfl
theorem mw {Q:Bool->Prop}(h:EvD X α e λx=>∃k,zP1 x=some k/\Q k)(he:∀whole,isTrue e X.env whole=(do let v <-whole;standAt e.pos;holding [v] (truthy v)):=by intro _;rfl):EvT X α e Q:=λF σ H R m k=>by
 refine⟨_,ah zg he,?_⟩;refine h F σ H _ m λx l H1 j t1 k1 g=>?_;obtain⟨b,hb,q⟩:=j;refine⟨b,?_,k b H1 q t1 k1⟩;cases g with
 |non=>cases hb;rfl
 |bl z=>cases hb;rfl
 |int i=>cases hb;rfl
 |str s=>cases hb
 |lst d f=>cases hb;exact .inl ⟨_,SqL.of (zb d).2,by rw[f.isEmpty]⟩
 |tup d f=>cases hb;exact .inr (.inl ⟨_,SqT.of (zb d).2,by rw[f.isEmpty]⟩)
 |ins _ _=>cases hb
 |dk _ _=>cases hb
 |dt _ _=>cases hb
 |xc _ _ _=>cases hb
 |xn _=>cases hb
theorem zc3 {Q:Bool->Prop}(h:EvT X α a λk=>Q (!k)):EvT X α (.UnaryOp .Not a pos) Q:=λF σ H R m k=>by
 refine⟨_,zB6 xk,?_⟩;exact h F σ H _ m λb H1 d t1 k1=>k _ H1 d t1 k1
def EvW (X:Cx)(α:Ev)(e:Expr)(Q:Bool->Prop):Prop:=∀(F:Fr) (σ:St) (H:Hp) (R:Bool->Hp->Prop),M F α σ H->(∀b H',Q b->zD F H'->Kz F H H'->R b H')->∃t,PW X e t/\t σ H R
def zV0 (X:Cx)(e:Expr):TT:=λσ H Q=>∃t,PW X e t/\t σ H Q
theorem iO :PW X e (zV0 X e):=λw pins s σ H Q I d=>by obtain⟨t,p,q⟩:=d;exact p w pins s σ H Q I q
theorem EvW.t {Q:Bool->Prop}(h:EvW X α e Q):EvT X α e Q:=λF σ H R m k=>by
 obtain⟨t,p,q⟩:=h F σ H R m k;exact⟨t,p.pt,q⟩
variable {rest:List Expr}
theorem gg {Q:Bool->Prop}(h:EvT X α a Q):EvW X α (.BoolOp .And [a] pos) Q:=λF σ H R m k=>⟨_,iD xk,h F σ H R m k⟩
theorem zJ5 {Q:Bool->Prop}(h:EvT X α a Q):EvW X α (.BoolOp .Or [a] pos) Q:=λF σ H R m k=>⟨_,zC3 xk,h F σ H R m k⟩
theorem dI {Q:Bool->Prop}(h:EvT X α a λk=>if k=true then EvW X α (.BoolOp .And (b::rest) pos) Q else Q false):EvW X α (.BoolOp .And (a::b::rest) pos) Q:=λF σ H R m k=>by
 refine⟨_,cG xk iO,?_⟩;refine h F σ H _ m λc H1 d t1 k1=>?_;cases c with
 |true=>exact oM ((by simpa using d:EvW X α _ Q) F σ H1 R (m.kz k1 t1) λb g f t2 k2=>k b g f t2 (k1.trans k2))
 |false=>exact oC (k _ H1 (by simpa using d) t1 k1)
theorem zR1 {Q:Bool->Prop}(h:EvT X α a λk=>if k=true then Q true else EvW X α (.BoolOp .Or (b::rest) pos) Q):EvW X α (.BoolOp .Or (a::b::rest) pos) Q:=λF σ H R m k=>by
 refine⟨_,zK9 xk iO,?_⟩;refine h F σ H _ m λc H1 d t1 k1=>?_;cases c with
 |false=>exact oC ((by simpa using d:EvW X α _ Q) F σ H1 R (m.kz k1 t1) λb g f t2 k2=>k b g f t2 (k1.trans k2))
 |true=>exact oM (k _ H1 (by simpa using d) t1 k1)
theorem zD5 {op}(h:EvD X α a Q):EvD X α (.BoolOp op [a] pos) Q:=λF σ H R m k=>⟨_,zG6 zg,h F σ H R m k⟩
theorem zF9 (h:EvD X α a λx=>∃k,x=.bool k/\if k=true then EvD X α (.BoolOp .And (b::rest) pos) Q else Q (.bool false)):EvD X α (.BoolOp .And (a::b::rest) pos) Q:=λF σ H R m k=>by
 refine⟨_,zC5 zg zg,?_⟩;refine h F σ H _ m λx n H1 f t1 k1 i=>?_;obtain⟨c,rfl,f⟩:=f;cases i.bl_inv;refine⟨c,rfl,?_⟩;cases c with
 |true=>exact oM ((by simpa using f:EvD X α _ Q) F σ H1 R (m.kz k1 t1) λd v l g t2 k2 j=>k d v l g t2 (k1.trans k2) j)
 |false=>exact oC (k _ _ H1 (by simpa using f) t1 k1 (.bl _))
theorem zK8 (h:EvD X α a λx=>∃k,x=.bool k/\if k=true then Q (.bool true)else EvD X α (.BoolOp .Or (b::rest) pos) Q):EvD X α (.BoolOp .Or (a::b::rest) pos) Q:=λF σ H R m k=>by
 refine⟨_,zN0 zg zg,?_⟩;refine h F σ H _ m λx n H1 f t1 k1 i=>?_;obtain⟨c,rfl,f⟩:=f;cases i.bl_inv;refine⟨c,rfl,?_⟩;cases c with
 |false=>exact oC ((by simpa using f:EvD X α _ Q) F σ H1 R (m.kz k1 t1) λd v l g t2 k2 j=>k d v l g t2 (k1.trans k2) j)
 |true=>exact oM (k _ _ H1 (by simpa using f) t1 k1 (.bl _))
theorem zf6 (h:EvD X α a λx=>∃k,x=.bool k/\Q (.bool (!k))):EvD X α (.UnaryOp .Not a pos) Q:=λF σ H R m k=>by
 refine⟨_,zA2 zg,?_⟩;refine h F σ H _ m λx g H1 d t1 k1 f=>?_;obtain⟨c,rfl,q⟩:=d;cases f.bl_inv;exact⟨c,rfl,k _ _ H1 q t1 k1 (.bl _)⟩
theorem kq (h:EvT X α c λk=>if k=true then EvD X α a Q else EvD X α b Q):EvD X α (.IfExp c a b pos) Q:=λF σ H R m k=>by
 refine⟨_,za5 xk zg zg,?_⟩;refine h F σ H _ m λx H1 j t1 k1=>?_;cases x with
 |true=>exact oM ((by simpa using j:EvD X α _ Q) F σ H1 R (m.kz k1 t1) λd v i f t2 k2 g=>k d v i f t2 (k1.trans k2) g)
 |false=>exact oC ((by simpa using j:EvD X α _ Q) F σ H1 R (m.kz k1 t1) λd v i f t2 k2 g=>k d v i f t2 (k1.trans k2) g)
theorem pX (u:oG b)(h:EvD X α a λx=>EvD X α b λy=>∃ds i d,x=.tuple ds/\y=.int i/\atI ds i=some d/\Q d):EvD X α (.Subscript a b pos) Q:=by
 refine sU (f:=tOp (zG0 X.K)) (yy cM zg zg u) (λ_ _ _=>Iff.rfl) (h.imp λx h=>h.imp λy g=>?_);obtain⟨ds,i,d,e1,s,j,hq⟩:=g;subst e1 s;intro F σ H w z R m o n k;obtain⟨a,xs,rfl,r,l⟩:=o.tup_inv;cases n.int_inv;obtain⟨v,t,av⟩:=l.atI j;exact⟨a,xs,i,v,rfl,rfl,SqT.of (zb r).2,t,k d v H hq m.tp Kz.refl av⟩
def EvO (X:Cx)(α:Ev)(e:Option Expr)(Q:Option Int->Prop):Prop:=∀(F:Fr) (σ:St) (H:Hp) (R:Option Int->Hp->Prop),M F α σ H->(∀i H',Q i->zD F H'->Kz F H H'->R i H')->∃t,PO X e t/\t σ H R
def zW6 (X:Cx)(e:Option Expr):TO:=λσ H Q=>∃t,PO X e t/\t σ H Q
theorem gf {e:Option Expr}:PO X e (zW6 X e):=λpins s σ H Q I d=>by obtain⟨t,p,q⟩:=d;exact p pins s σ H Q I q
theorem zi4 {Q:Option Int->Prop}(q:Q none):EvO X α none Q:=λF σ H R m k=>⟨_,pI,k _ H q m.tp Kz.refl⟩
theorem zp0 {Q:Option Int->Prop}(h:EvD X α a λx=>∃i,x=.int i/\Q (some i)):EvO X α (some a) Q:=λF σ H R m k=>by
 refine⟨_,ou zg,?_⟩;refine h F σ H _ m λx g H1 d t1 k1 f=>?_;obtain⟨i,rfl,q⟩:=d;cases f.int_inv;exact⟨i,rfl,k _ H1 q t1 k1⟩
theorem M.lay {F:Fr}{σ:St}{H:Hp}{l:Addr}{xs:List V}{ds:List PyData}(m:M F α σ H)(d:H l=none)(h:AVs (Gz F α σ H) xs ds):zD F (upd H l (.lst xs))/\Kz F H (upd H l (.lst xs))/\yK F α σ H (.ref l) (upd H l (.lst xs)) ds:=by
 refine⟨m.tp.same (zW d),Kz.of_same (zW d),l,xs,rfl,d,zf,h.same (zm λa o ha e=>?_)⟩;have:=zh e d;exact⟨⟨ha,this⟩,by rw[zc this];exact e⟩
theorem zu5 {lo hi:Option Expr}{Q:List PyData->Prop}(h:EvD X α a λx=>EvO X α lo λl=>EvO X α hi λu=>∃ds,x=.list ds/\Q (cutD ds l u)):EvL X α (.Subscript a (.Slice lo hi none p) pos) Q:=λF σ H R m k=>by
 refine⟨_,rP oH zg gf gf,?_⟩;refine h F σ H _ m λx C H1 y t1 k1 r=>?_;have m1:=m.kz k1 t1;refine y F σ H1 _ m1 λl v j t2 k2=>?_;have m2:=m1.kz k2 t2;refine j F σ v _ m2 λu H3 B t3 k3=>?_;have m3:=m2.kz k3 t3;obtain⟨ds,rfl,q⟩:=B;obtain⟨a,xs,rfl,s,w⟩:=(r.same ((k2.gz m1.tp).trans (k3.gz m2.tp))).lst_inv;refine⟨a,xs,rfl,SqL.of (zb s).2,λp t=>?_⟩;obtain⟨g1,g2,g3⟩:=m3.lay t (w.cut l u);have i:=(k1.trans k2).trans k3;obtain⟨g,d,e1,f,A,n⟩:=g3;refine k _ _ _ q g1 (i.trans g2) ⟨g,d,e1,?_,A,n⟩;cases z:H g with
 |none=>rfl
 |some o=>rw[i g o z (m.tp.nt (ow0 (m3.fresh f)))]at f;cases f
theorem yK.back {F:Fr}{σ:St}{H H1 H':Hp}{v:V}{ds:List PyData}(m:M F α σ H)(k:Kz F H H1)(t1:zD F H1)(h:yK F α σ H1 v H' ds):yK F α σ H v H' ds:=by
 obtain⟨f,d,e1,g,j,i⟩:=h;refine⟨f,d,e1,?_,j,i⟩;cases z:H f with
 |none=>rfl
 |some o=>rw[k f o z (m.tp.nt (ow0 ((m.kz k t1).fresh g)))]at g;cases g
theorem zH {Q:List A->Prop}(q:Q []):EvA X α [] Q:=λF σ H R m k=>⟨_,zF,k _ _ H q m.tp Kz.refl .nil⟩
theorem zq {Q:List A->Prop}(h:EvD X α e λd=>EvA X α es λas=>Q (.dat d::as))(n:starEach (e::es) X.env=(false,eval e X.env)::starEach es X.env:=by rfl):EvA X α (e::es) Q:=λF σ H R m k=>by
 refine⟨_,zp zg yv n,?_⟩;refine h F σ H _ m λd v H1 g t1 k1 i=>?_;have m1:=m.kz k1 t1;exact g F σ H1 _ m1 λas vs l f t2 k2 j=>k _ _ l f t2 (k1.trans k2) (.cons (i.same (k2.gz m1.tp)) j)
theorem zm0 {Q:List A->Prop}(i:Nat){x:Str}(hi:α[i]?=some (some .tape))(h:EvA X α es λas=>Q (.tape::as))(s:X.N[i]?=some x:=by rfl)(n:Vis X.env.scope x:=by first|exact Or.inl rfl|exact Or.inr (Or.inl rfl)|exact Or.inr (Or.inr rfl))
  (hd:(x == ("__debug__":Str))=false:=by decide) (d:(x == ("__classdict__":Str))=false:=by decide) (r:starEach (.Name x pos::es) X.env=(false,eval (.Name x pos) X.env)::starEach es X.env:=by rfl):EvA X α (.Name x pos::es) Q:=λF σ H R m k=>by
 obtain⟨t,b,c,j,f⟩:=m.tvar i hi;refine⟨_,zp (yF s n hd d) yv r,.ref t,f,?_⟩;exact h F σ H _ m λas vs o g t2 k2 l=>k _ _ o g t2 k2 (.cons ⟨t,b,c,j,rfl⟩ l)
def datas :List A->Option (List PyData)
 |[]=>some []
 |.dat d::r=>(datas r).map (d::·)
 |_::_=>none
theorem zV.datas {F:Fr}{G:Hp}{vs:List V}{as:List A}{ds:List PyData}(h:zV F G vs as)(e:L2.datas as=some ds):AVs G vs ds:=by
 induction h generalizing ds with
 |nil=>cases e;exact .nil
 |@cons _ _ a as h _ ih=>
  cases a with
  |dat d=>
   obtain⟨es,e1,rfl⟩:=zZ6.mp e;exact .cons h (ih e1)
  |tape=>cases e
  |_=>exact h.elim
theorem ze9 {n:Nat}(h:EvA X α es λas=>∃ds,datas as=some ds/\ds.length<=1000/\Q (.tuple ds)):EvD X α (.Tuple es n pos) Q:=λF σ H R m k=>by
 refine⟨_,kP yv,?_⟩;refine h F σ H _ m λas vs H1 f t1 k1 g=>?_;obtain⟨ds,e,i,q⟩:=f;have r:=g.datas e;have m1:=m.kz k1 t1;refine⟨by rw[r.length];exact z36 (ye i),λp d=>?_⟩;refine k _ _ _ q (t1.same (zW d)) (k1.trans (Kz.of_same (zW d))) (.tup (xs:=vs) (zu (m1.fresh d) zf) (r.same (zm λa o ha e=>⟨ha,by rw[zc (zh e d)];exact e⟩)))
theorem rQ {Q:List PyData->Prop}(h:EvA X α es λas=>∃ds,datas as=some ds/\ds.length<=1000/\Q ds):EvL X α (.List es pos) Q:=λF σ H R m k=>by
 refine⟨_,bQ yv,?_⟩;refine h F σ H _ m λas vs H1 d t1 k1 f=>?_;obtain⟨ds,e,i,q⟩:=d;have r:=f.datas e;have m1:=m.kz k1 t1;refine⟨by rw[r.length];exact z36 (ye i),λp g=>?_⟩;obtain⟨g1,g2,g3⟩:=m1.lay g r;exact k _ _ _ q g1 (k1.trans g2) (g3.back m k1 t1)
theorem vh {Q:List PyData->Prop}(h:EvD X α a λx=>EvD X α b λy=>∃ds es,x=.list ds/\y=.list es/\ds.length+es.length<=1000/\Q (ds++es)):EvL X α (.BinOp a .Add b pos) Q:=λF σ H R m k=>by
 refine⟨_,yk zG8 zg zg,?_⟩;refine h F σ H _ m λx v H1 o t1 k1 i=>?_;have m1:=m.kz k1 t1;refine o F σ H1 _ m1 λy u t g t2 k2 r=>?_;have m2:=m1.kz k2 t2;obtain⟨ds,es,rfl,rfl,n,q⟩:=g;obtain⟨a,xs,rfl,j,d⟩:=(i.same (k2.gz m1.tp)).lst_inv;obtain⟨b,ys,rfl,s,f⟩:=r.lst_inv;refine⟨a,b,xs,ys,rfl,rfl,(zb j).2,(zb s).2,by rw[d.length,f.length];exact z36 (ye n),λp l=>?_⟩;obtain⟨g1,g2,g3⟩:=m2.lay l (d.append f);exact k _ _ _ q g1 ((k1.trans k2).trans g2) (g3.back m (k1.trans k2) t2)
theorem xA {id:String}{x:Str}{r:List V->Hp->VK->Prop}(g:yI X (.builtin id) r)(hg:Gl X x)(hm:X.mg x=none)(o:bootBuiltins x=some (.builtin id))
  (h:EvA X α (e::es) λas=>∀(F:Fr) (σ:St) (H:Hp) (vs:List V) (R:VK),M F α σ H->zV F (Gz F α σ H) vs as->(∀d v H',Q d->zD F H'->Kz F H H'->AV (Gz F α σ H') v d->R v H')->r vs H R)
  (hn:x≠"__name__":=by decide) (f:(x == ("__debug__":Str))=false:=by decide) (he:starEach (e::es) X.env=(false,eval e X.env)::starEach es X.env:=by rfl) (hpl:(backTo pos (starEach es X.env)).any (·.1)=false:=by rfl):
  EvD X α (.Call (.Name x p) (e::es) [] pos) Q:=λF σ H R m k=>by
 refine⟨_,yL g hg hm o yv hn f he hpl,?_⟩;refine h F σ H _ m λas vs H1 i t1 k1 j=>?_;exact i F σ H1 vs R (m.kz k1 t1) j λd v H' n t2 k2 l=>k d v H' n t2 (k1.trans k2) l
end
section
variable {X:Cx}{α:Ev}{e a b c:Expr}{es:List Expr}{pos p q:Pos}{Q:PyData->Prop}
theorem zV.one {F:Fr}{G:Hp}{vs:List V}{d:PyData}(h:zV F G vs [.dat d]):∃v,vs=[v]/\AV G v d:=by
 cases h with|cons h r=>cases r;exact⟨_,rfl,h⟩
theorem zV.two {F:Fr}{G:Hp}{vs:List V}{d e:PyData}(h:zV F G vs [.dat d,.dat e]):∃v u,vs=[v,u]/\AV G v d/\AV G u e:=by
 cases h with|cons h r=>obtain⟨u,rfl,f⟩:=r.one;exact⟨_,u,rfl,h,f⟩
def zW8 :PyData->Option Int
 |.list ds=>some ds.length
 |.tuple ds=>some ds.length
 |_=>none
theorem bR (hg:Gl X "len")(hm:X.mg "len"=none)(h:EvD X α e λx=>∃n,zW8 x=some n/\Q (.int n))(he:starEach [e] X.env=(false,eval e X.env)::starEach [] X.env:=by rfl):
  EvD X α (.Call (.Name "len" p) [e] [] pos) Q:=by
 refine xA yG hg hm ye9 (zq (h.imp λx g=>?_) he) (he:=he);obtain⟨n,e1,q⟩:=g;refine zH ?_;intro F σ H vs R m i k;obtain⟨v,rfl,av⟩:=i.one;cases av with
 |lst f d=>cases e1;rw[<-d.length]at q;exact⟨_,_,rfl,.inl (SqL.of (zb f).2),k _ _ H q m.tp Kz.refl (.int _)⟩
 |tup f d=>cases e1;rw[<-d.length]at q;exact⟨_,_,rfl,.inr (SqT.of (zb f).2),k _ _ H q m.tp Kz.refl (.int _)⟩
 |_=>cases e1
theorem zA7 (g:X.calm=true)(hg:Gl X "min")(hm:X.mg "min"=none)(h:EvD X α a λx=>EvD X α b λy=>∃i j,x=.int i/\y=.int j/\Q (.int (if j<i then j else i)))
  (he:starEach [a,b] X.env=(false,eval a X.env)::starEach [b] X.env:=by rfl) (f:starEach [b] X.env=(false,eval b X.env)::starEach [] X.env:=by rfl) (hpl:(backTo pos (starEach [b] X.env)).any (·.1)=false:=by rfl):
  EvD X α (.Call (.Name "min" p) [a,b] [] pos) Q:=by
 refine xA (gh g) hg hm boot_min (zq (h.imp λx h=>zq (h.imp λy d=>?_) f) he) (he:=he) (hpl:=hpl);obtain⟨i,j,e1,o,q⟩:=d;refine zH ?_;intro F σ H vs R m l k;subst e1 o;obtain⟨v,u,rfl,av,n⟩:=l.two;cases av.int_inv;cases n.int_inv;exact⟨i,j,rfl,k _ _ H q m.tp Kz.refl (.int _)⟩
theorem rW {T:String}{x:Str}{p1:Pos}(hg:Gl X "isinstance")(hm:X.mg "isinstance"=none)(i:Gl X x)(f:X.mg x=none)(hT:bootBuiltins x=some (.type T))
  (h:EvD X α a λx=>∃k,x.hasDict=false/\zg0 T x=some k/\Q (.bool k)) (d:x≠"__name__":=by decide) (hdx:(x == ("__debug__":Str))=false:=by decide)
  (he:starEach [a,.Name x p1] X.env=(false,eval a X.env)::starEach [.Name x p1] X.env:=by rfl) (g:starEach [.Name x p1] X.env=(false,eval (.Name x p1) X.env)::starEach [] X.env:=by rfl) (hpl:(backTo pos (starEach [.Name x p1] X.env)).any (·.1)=false:=by rfl):
  EvD X α (.Call (.Name "isinstance" p) [a,.Name x p1] [] pos) Q:=λF σ H R m k=>by
 refine⟨_,yL fL hg hm boot_isinstance (zp zg (zp (zi1 i f hT (show RelV (.ty T) (.type T)from rfl) d hdx) zF g) he) (he:=he) (hpl:=hpl),?_⟩;refine h F σ H _ m λx n H1 j t1 k1 l=>?_;obtain⟨b,hd,e,q⟩:=j;exact⟨n,T,x,b,rfl,(l.dv hd).same yz,e,k _ _ H1 q t1 k1 (.bl b)⟩
def wA :PyData->Option (List PyData)
 |.list ds=>some ds
 |.tuple ds=>some ds
 |_=>none
theorem pL {Q:List PyData->Prop}(hg:Gl X "list")(hm:X.mg "list"=none)(h:EvD X α e λx=>∃ds,wA x=some ds/\Q ds)(he:starEach [e] X.env=(false,eval e X.env)::starEach [] X.env:=by rfl):
  EvL X α (.Call (.Name "list" p) [e] [] pos) Q:=λF σ H R m k=>by
 refine⟨_,xr ui hg hm boot_list (zp zg zF he) (he:=he),?_⟩;refine h F σ H _ m λx n H1 g t1 k1 i=>?_;obtain⟨ds,e1,q⟩:=g;have m1:=m.kz k1 t1;have fin:∀{xs:List V},AVs (Gz F α σ H1) xs ds->∀l,H1 l=none->R (.ref l) (upd H1 l (.lst xs)):=λ{xs} d l j=>by
  obtain⟨g1,g2,g3⟩:=m1.lay j d;exact k _ _ _ q g1 (k1.trans g2) (g3.back m k1 t1)
 cases i with
 |lst f d=>cases e1;exact⟨_,_,rfl,.inl (SqL.of (zb f).2),fin d⟩
 |tup f d=>cases e1;exact⟨_,_,rfl,.inr (SqT.of (zb f).2),fin d⟩
 |_=>cases e1
theorem AVs.bools {H:Hp}{xs:List V}{bs:List Bool}(h:AVs H xs (bs.map .bool)):xs=bs.map V.bl:=by
 induction bs generalizing xs with
 |nil=>cases h;rfl
 |cons n ns f=>cases h with
  |cons h d=>rw[z03,f d,h.bl_inv]
theorem zD7 (g:X.calm=true)(hg:Gl X "all")(hm:X.mg "all"=none)(h:EvD X α e λx=>∃bs:List Bool,x=.list (bs.map .bool)/\Q (.bool (bs.all id)))(he:starEach [e] X.env=(false,eval e X.env)::starEach [] X.env:=by rfl):
  EvD X α (.Call (.Name "all" p) [e] [] pos) Q:=by
 refine xA (fU g) hg hm boot_all (zq (h.imp λx d=>?_) he) (he:=he);obtain⟨bs,e1,q⟩:=d;refine zH ?_;intro F σ H vs R m i k;subst e1;obtain⟨v,rfl,av⟩:=i.one;obtain⟨a,xs,rfl,j,f⟩:=av.lst_inv;exact⟨a,bs,rfl,by rw[(zb j).2,f.bools],k _ _ H q m.tp Kz.refl (.bl _)⟩
theorem dg (g:X.calm=true)(hg:Gl X "any")(hm:X.mg "any"=none)(h:EvD X α e λx=>∃bs:List Bool,x=.list (bs.map .bool)/\Q (.bool (bs.any id)))(he:starEach [e] X.env=(false,eval e X.env)::starEach [] X.env:=by rfl):
  EvD X α (.Call (.Name "any" p) [e] [] pos) Q:=by
 refine xA (fZ g) hg hm boot_any (zq (h.imp λx d=>?_) he) (he:=he);obtain⟨bs,e1,q⟩:=d;refine zH ?_;intro F σ H vs R m i k;subst e1;obtain⟨v,rfl,av⟩:=i.one;obtain⟨a,xs,rfl,j,f⟩:=av.lst_inv;exact⟨a,bs,rfl,by rw[(zb j).2,f.bools],k _ _ H q m.tp Kz.refl (.bl _)⟩
section
variable {k:Nat}{f:Addr}{fd:FuncData}{ps:List Str}{φ:List A->(A->Prop)->Prop}{x:Str}
theorem wB {F:Fr}{σ:St}{H:Hp}{vs:List V}{as:List A}{g:A->Prop}{R:VK}(m:M F α σ H)(i:zV F (Gz F α σ H) vs as)(d:φ as g)
  (h:∀a v H',g a->wO ⟨H,Ow F α σ,F.tp⟩ v H' a->R v H') {E:XK}:spA φ (vs++[]) H R E:=by
 refine⟨⟨H,Ow F α σ,F.tp⟩,as,g,rfl,?_,?_,?_,d,h⟩
 ·exact m.tp.to rfl λ_ z=>.inl z
 ·exact λy z=>m.owEx z
 ·rw[z51];exact zV.to (F:=F) (F':=⟨H,Ow F α σ,F.tp⟩) (λ_ _ e=>e) rfl i
theorem wO.back {F:Fr}{σ:St}{H H':Hp}{v:V}{a:A}(m:M F α σ H)(h:wO ⟨H,Ow F α σ,F.tp⟩ v H' a):zD F H'/\Kz F H H'/\AV (Gz F α σ H') v a.d:=by
 obtain⟨t,kz,r⟩:=h;refine⟨m.tp.re t rfl,kz,?_⟩;cases a with
 |dat d=>exact r
 |ow c=>
  obtain⟨l,xs,ds,rfl,rfl,s,g,j,u⟩:=r;exact .lst (zu g j) (u.same (zm λa o h e=>⟨h.1,e⟩))
 |deep d S=>
  obtain⟨s,g⟩:=r;refine s.same λx o e=>?_;rcases nk e with⟨w,i⟩|⟨_,i⟩
  ·exact zu (g x w).1 i
  ·exact i
 |tape=>exact r.elim
 |«at» _=>exact r.elim
 |exc _ _=>exact r.elim
 |pin _ _ _=>exact r.elim
 |nst l ls dss=>
  obtain⟨rfl,g,j,u,n⟩:=r;exact .lst (zu (n l zY9).1 g) (j.avs (zm λa o h e=>⟨h.1,e⟩) λa ha=>(n a (zY6 _ ha)).1)
theorem zg1 (G:yn X.prog X.w X.K X.mg X.base CX0 k f fd ps (spA φ))(hr:zG k X.A)(hg:Gl X x)(hm:X.mg x=some (.ref f))(hk:PySem.W.keepIn X.K (.ref f)=true)(hb:Binds X.K fd ps [])
  (h:EvA X α (e::es) λas=>φ as λa=>Q a.d) (g:(x == ("__debug__":Str))=false:=by decide) (he:starEach (e::es) X.env=(false,eval e X.env)::starEach es X.env:=by rfl) (hpl:(backTo pos (starEach es X.env)).any (·.1)=false:=by rfl):
  EvD X α (.Call (.Name x p) (e::es) [] pos) Q:=λF σ H R m i=>by
 refine⟨_,pK G hr hg hm hk hb .nil qL yv g he hpl,?_⟩;refine h F σ H _ m λas vs H1 j t1 k1 l=>?_;have m1:=m.kz k1 t1;refine wB m1 l j λa v H' n o=>?_;obtain⟨g1,g2,g3⟩:=o.back m1;exact i _ v H' n g1 (k1.trans g2) g3
theorem zk3 {Q:List PyData->Prop}(G:yn X.prog X.w X.K X.mg X.base CX0 k f fd ps (spA φ))(hr:zG k X.A)(hg:Gl X x)(hm:X.mg x=some (.ref f))(hk:PySem.W.keepIn X.K (.ref f)=true)(hb:Binds X.K fd ps [])
  (h:EvA X α (e::es) λas=>φ as λa=>∃ds,a=.own ds/\Q ds) (d:(x == ("__debug__":Str))=false:=by decide) (he:starEach (e::es) X.env=(false,eval e X.env)::starEach es X.env:=by rfl) (hpl:(backTo pos (starEach es X.env)).any (·.1)=false:=by rfl):
  EvL X α (.Call (.Name x p) (e::es) [] pos) Q:=λF σ H R m i=>by
 refine⟨_,pK G hr hg hm hk hb .nil qL yv d he hpl,?_⟩;refine h F σ H _ m λas vs H1 s t1 k1 j=>?_;have m1:=m.kz k1 t1;refine wB m1 j s λa v H' o g=>?_;obtain⟨ds,rfl,q⟩:=o;obtain⟨g1,g2,_⟩:=g.back m1;obtain⟨_,_,l,xs,ds',rfl,r,n,y,u,t⟩:=g;cases r;exact i ds _ H' q g1 (k1.trans g2) (yK.back m k1 t1 ⟨l,xs,rfl,n,u,t⟩)
end
theorem sJ {i j:Nat}{x:Option A}(h:i≠j):(α.set i x)[j]?=α[j]?:=z50 h
theorem zz {i:Nat}{x:Option A}{j:Nat}{y:Option A}(h:(α.set i x)[j]?=some y):(i=j/\x=y)\/(i≠j/\α[j]?=some y):=by
 by_cases d:i=j
 ·subst d;left;have f:i<α.length:=by
   have:=(zX9.mp h).1
   rwa [z31]at this
  rw[z94 f]at h;exact⟨rfl,z07 h⟩
 ·right;rw[z50 d]at h;exact⟨d,h⟩
theorem M.put {F:Fr}{σ:St}{H:Hp}{i:Nat}{b:Option A}(m:M F α σ H)(hf:∀s c x,σ[i]?=some s->b=some c->foot s c x->∃a,α[i]?=some (some a)/\foot s a x)
  (hok:∀s c,i<α.length->σ[i]?=some s->b=some c->vp (Gz F (α.set i b) σ H) F H s c) (I:∀c,b=some c->noX c:=by intro c z;cases z;trivial):zw (Gz F α σ H) (Gz F (α.set i b) σ H)/\M F (α.set i b) σ H:=by
 have y:zw (Gz F α σ H) (Gz F (α.set i b) σ H):=zm λa o h e=>⟨λz=>h (by
  rcases z with z|⟨j,c,s,e1,n,f⟩
  ·exact .inl z
  ·rcases zz e1 with⟨rfl,z⟩|⟨B,g⟩
   ·obtain⟨u,v,w⟩:=hf s c a n z f;exact .inr ⟨i,u,s,v,n,w⟩
   ·exact .inr ⟨j,c,s,g,n,f⟩),e⟩
 have old:∀{j:Nat} {c:A} {s:Option V} {x:Addr},(α.set i b)[j]?=some (some c)->σ[j]?=some s->foot s c x->∃a,α[j]?=some (some a)/\foot s a x:=λ{j c s x} e1 n f=>by
  rcases zz e1 with⟨rfl,z⟩|⟨B,g⟩
  ·exact hf s c x n z f
  ·exact⟨c,g,f⟩
 refine⟨y,by rw[z31];exact m.len,λj c s e1 n=>?_,λj k c d s t x e1 n v w f1 f2=>?_,λj r q e D c s x e1 n f=>?_,m.tp,m.keep,m.oex⟩
 ·rcases zz e1 with⟨rfl,z⟩|⟨B,g⟩
  ·refine hok s c ?_ n z;have:=(zX9.mp e1).1
   rwa [z31]at this
  ·exact(m.ok j c s g n).stay y (λx o f e=>⟨e,(m.ft g n f).1,(m.ft g n f).2.1⟩) rfl λ_ _ _ l=>l
 ·obtain⟨u,g1,g2⟩:=old e1 v f1;obtain⟨C,g3,G⟩:=old n w f2;exact m.dj j k u C s t x g1 g3 v w g2 G
 ·obtain⟨u,g1,g2⟩:=old e1 n f;rcases zz e with⟨rfl,z⟩|⟨_,E⟩
  ·exact(I _ z).elim
  ·exact m.xd j r q E D u s x g1 n g2
theorem M.gave {F:Fr}{σ:St}{H:Hp}{i:Nat}{a:A}{s:Option V}{b:Option A}{x:Addr}(m:M F α σ H)(e1:α[i]?=some (some a))(k:σ[i]?=some s)(f:foot s a x)(hb:∀c,b=some c->¬foot s c x):¬Ow F (α.set i b) σ x:=by
 rintro(z|⟨j,c,t,l,d,g⟩)
 ·exact(m.ft e1 k f).1 z
 ·rcases zz l with⟨rfl,z⟩|⟨n,h⟩
  ·rw[k]at d;cases d;exact hb c z g
  ·exact n (m.dj i j a c s t x e1 h k d f g)
theorem aL {F:Fr}{σ:St}{H:Hp}{i:Nat}{b:A}(hb:∀s x,¬foot s b x):zw (Gz F α σ H) (Gz F (α.set i (some b)) σ H):=zm λa o h e=>⟨λz=>h (by
 rcases z with z|⟨j,c,s,e1,g,f⟩
 ·exact .inl z
 ·rcases zz e1 with⟨rfl,z⟩|⟨k,d⟩
  ·cases z;exact(hb _ _ f).elim
  ·exact .inr ⟨j,c,s,d,g,f⟩),e⟩
theorem M.frz {F:Fr}{σ:St}{H:Hp}{i:Nat}{ds:List PyData}(m:M F α σ H)(hi:α[i]?=some (some (.own ds))):M F (α.set i (some (.dat (.list ds)))) σ H:=
 (m.put (b:=some (.dat (.list ds))) (λs c' x _ z f=>by cases z;exact f.elim) λs c' _ g z=>by
  cases z;obtain⟨l,o,d,h,j,n,k⟩:=m.owc i _ hi;rw[d]at g;cases g;exact⟨.ref l,rfl,(j.same (aL (b:=.dat (.list ds)) λ_ _ f=>f)).av (zu (m.gave hi d rfl λc z=>by cases z;exact id) h)⟩).2
theorem kA {F:Fr}{σ:St}{H H':Hp}{i:Nat}{a:A}{b:Option A}(m:M F α σ H)(k:Kz F H H')(hi:α[i]?=some (some a))(x:Addr)(o:HO)(r:¬Ob o)(h:Gz F (α.set i b) σ H' x=some o):Gz F α σ H' x=some o:=by
 obtain⟨g,d⟩:=zb h;refine zu ?_ d;rintro(z|⟨j,c,s,e1,n,f⟩)
 ·exact g (.inl z)
 ·by_cases l:i=j
  ·subst l;obtain⟨g1,g2,o',g3,t⟩:=m.ft e1 n f;rw[k _ _ g3 (m.tp.nt g1)]at d;cases d;exact r t
  ·exact g (.inr ⟨j,c,s,by rw[sJ l];exact e1,n,f⟩)
theorem jc {Q:List PyData->Prop}{i:Nat}{a:A}{b:Option A}(hi:α[i]?=some (some a))(hm:∀F σ H,M F α σ H->M F (α.set i b) σ H)(h:EvL X (α.set i b) e λd=>xQ d=true/\Q d):EvL X α e Q:=λF σ H R m k=>
 h F σ H R (hm F σ H m) λd v H' q t kz r=>by
  obtain⟨l,xs,s,j,u,o⟩:=r;refine k d v H' q.2 t kz ⟨l,xs,s,j,u,o.noL (λa ys hno z=>?_) q.1⟩;obtain⟨f,n⟩:=zb z;obtain⟨g,w⟩:=zb (kA m kz hi a ys hno (zu f.1 n));exact zu ⟨g,f.2⟩ w
theorem pU (i:Nat){ds:List PyData}(hi:α[i]?=some (some (.own ds)))(h:EvD X (α.set i (some (.dat (.list ds)))) e λd=>noL d=true/\Q d):EvD X α e Q:=λF σ H R m k=>
 h F σ H R (m.frz hi) λd v H' q t kz r=>k d v H' q.2 t kz (r.noL (kA m kz hi) q.1)
theorem vD {Q:Bool->Prop}(i:Nat){ds:List PyData}(hi:α[i]?=some (some (.own ds)))(h:EvT X (α.set i (some (.dat (.list ds)))) e Q):EvT X α e Q:=λF σ H R m k=>h F σ H R (m.frz hi) k
theorem oo {Q:List PyData->Prop}(i:Nat){ds:List PyData}(hi:α[i]?=some (some (.own ds)))(h:EvL X (α.set i (some (.dat (.list ds)))) e λd=>xQ d=true/\Q d):EvL X α e Q:=jc hi (λ_ _ _ m=>m.frz hi) h
def ItW (p:Addr->Prop)(J:It)(ds:List PyData)(G:Hp):Prop:=∀(i:Nat) (f:Hp) (q:Addr->Prop),zw G (sub q f)->
 (∀d,ds[i]?=some d->J.go i f/\∀x H3,J.yld i f x H3->zw f H3/\((∀a o,H3 a=some o->f a=none->q a)->AV (sub q H3) x d))/\(ds.length<=i->J.stop i f)
def zI8 (X:Cx)(tg e:Expr):TI:=λσ H R=>∃t,PI X tg e t/\t σ H R
theorem tU {tg e:Expr}:PI X tg e (zI8 X tg e):=λpins s σ H R I d=>by obtain⟨t,p,q⟩:=d;exact p pins s σ H R I q
def EvI (X:Cx)(α:Ev)(tg e:Expr)(Q:List PyData->Prop):Prop:=∀(F:Fr) (σ:St) (H:Hp) (R:It->Hp->Prop),M F α σ H->
 (∀ds J H',Q ds->zD F H'->Kz F H H'->ItW (λx=>¬Ow F α σ x) J ds (Gz F α σ H')->R J H')->zI8 X tg e σ H R
theorem zQ {tg:Expr}{Q:List PyData->Prop}(h:EvD X α e λx=>∃ds,x=.list ds/\Q ds):EvI X α tg e Q:=λF σ H R m k=>by
 refine⟨_,jS zg,?_⟩;refine h F σ H _ m λx t H1 o t1 k1 l=>?_;obtain⟨ds,rfl,q⟩:=o;obtain⟨a,xs,rfl,f,g⟩:=l.lst_inv;refine⟨a,rfl,⟨xs,SqL.of (zb f).2⟩,k ds _ H1 q t1 k1 λi r p s=>⟨λd hd=>?_,λn=>?_⟩⟩
 ·obtain⟨x,j,av⟩:=g.get hd;have ha:=SqL.of (K:=X.K) (zb (s _ _ f)).2;refine⟨⟨xs,x,ha,j⟩,λu H3 y=>?_⟩;obtain⟨e,y⟩:=y;subst e;have:=y xs ha;rw[j]at this;cases this;exact⟨zw.refl _,λ_=>av.same s⟩
 ·exact⟨xs,SqL.of (zb (s _ _ f)).2,by rw[g.length];exact n⟩
theorem qQ {p:Addr->Prop}{lo:Int}{n:Nat}{G:Hp}:ItW p (Itr lo n) ((zx lo n).map .int) G:=λi h q s=>⟨λd hd=>by
  rw[zZ1,zZ6]at hd;obtain⟨z,f,rfl⟩:=hd;have hi:i<n:=by
   have:=(zX9.mp f).1
   rwa [zk]at this
  rw[yo hi]at f;cases f;refine⟨hi,λx H3 y=>?_⟩;obtain⟨rfl,rfl⟩:=y;exact⟨zw.refl _,λ_=>.int _⟩,λg=>by
  rw[zX7,zk]at g;exact g⟩
theorem xY {tg:Expr}{Q:List PyData->Prop}(hg:Gl X "range")(hm:X.mg "range"=none)(h:EvD X α a λx=>∃j,x=.int j/\-(2 ^ 62)<=j/\j<2 ^ 62/\Q ((zx 0 j.toNat).map .int))(d:starEach [a] X.env=[(false,eval a X.env)]:=by rfl):
  EvI X α tg (.Call (.Name "range" p) [a] [] pos) Q:=λF σ H R m k=>by
 refine⟨_,fA hg hm (zp zg zF d) d,?_⟩;refine h F σ H _ m λx n H1 g t1 k1 i=>?_;obtain⟨j,rfl,f,l,q⟩:=g;cases i.int_inv;exact⟨j,rfl,f,l,k _ _ H1 q t1 k1 qQ⟩
theorem vA {tg:Expr}{Q:List PyData->Prop}(hg:Gl X "range")(hm:X.mg "range"=none)(h:EvD X α a λx=>EvD X α b λy=>∃i j,x=.int i/\y=.int j/\(-(2 ^ 62)<=i/\i<2 ^ 62/\-(2 ^ 62)<=j/\j<2 ^ 62)/\Q ((zx i (j-i).toNat).map .int))
  (t:starEach [a,b] X.env=[(false,eval a X.env),(false,eval b X.env)]:=by rfl) (d:starEach [b] X.env=[(false,eval b X.env)]:=by rfl) (f:starEach [a,b] X.env=(false,eval a X.env)::starEach [b] X.env:=by rfl):
  EvI X α tg (.Call (.Name "range" p) [a,b] [] pos) Q:=λF σ H R m k=>by
 refine⟨_,gq hg hm (zp zg (zp zg zF d) f) t d,?_⟩;refine h F σ H _ m λx u H1 l t1 k1 n=>?_;have m1:=m.kz k1 t1;refine l F σ H1 _ m1 λy v r g t2 k2 o=>?_;obtain⟨i,j,rfl,rfl,s,q⟩:=g;cases n.int_inv;cases o.int_inv;exact⟨i,j,rfl,s,k _ _ r q t2 (k1.trans k2) qQ⟩
end
inductive Pat where
 |one (i:Nat)
 |many (is:List Nat)
 |nest (i:Nat) (is:List Nat)
def xT :List Nat->List PyData->Ev->Option Ev
 |[],[],α=>some α
 |i::is,d::ds,α=>xT is ds (α.set i (some (.dat d)))
 |_,_,_=>none
def Pat.bind :Pat->PyData->Ev->Option Ev
 |.one i,d,α=>some (α.set i (some (.dat d)))
 |.many is,.tuple ds,α=>xT is ds α
 |.nest i is,.tuple [d,.tuple ds],α=>xT is ds (α.set i (some (.dat d)))
 |_,_,_=>none
def gIs :List Nat->TGs
 |[]=>zD6
 |i::is=>ig (sN i) (gIs is)
def ng (K:PySem.W.Frag):Pat->TG
 |.one i=>sN i
 |.many is=>dE K is.length (gIs is)
 |.nest i is=>dE K 2 (ig (sN i) (ig (dE K is.length (gIs is)) zD6))
def Pat.slots :Pat->List Nat
 |.one i=>[i]
 |.many is=>is
 |.nest i is=>i::is
def isFree (α:Ev)(i:Nat):Bool:=match α[i]? with
 |some none=>true
 |_=>false
def Pat.free (p:Pat)(α:Ev):Bool:=p.slots.all (isFree α)
section
variable {X:Cx}{α α':Ev}{F:Fr}{σ:St}{H:Hp}
theorem M.store {i:Nat}{v:V}{b:A}{H':Hp}(m:M F α σ H)(t:zD F H')(k:Kz F H H')(hn:∀x,foot (some v) b x->H x=none)(hok:vp (sub (λx=>¬Ow F α σ x/\¬foot (some v) b x) H') F H' (some v) b)(Q:noX b:=by trivial):M F (α.set i (some b)) (σ.set i (some v)) H':=by
 have P:=m.kz k t;have D:∀{j:Nat} {c:A} {s:Option V},(α.set i (some b))[j]?=some (some c)->(σ.set i (some v))[j]?=some s->(i=j/\c=b/\s=some v)\/(i≠j/\α[j]?=some (some c)/\σ[j]?=some s):=λ{j c s} e1 n=>by
  rcases zz e1 with⟨rfl,z⟩|⟨K,G⟩
  ·cases z;have O:i<σ.length:=by
    have:=(zX9.mp n).1
    rwa [z31]at this
   rw[z94 O]at n;cases n;exact .inl ⟨rfl,rfl,rfl⟩
  ·rw[z50 K]at n;exact .inr ⟨K,G,n⟩
 have ow:∀{y:Addr},Ow F (α.set i (some b)) (σ.set i (some v)) y->Ow F α σ y\/foot (some v) b y:=λ{y} h=>by
  rcases h with z|⟨j,c,s,e1,n,f⟩
  ·exact .inl (.inl z)
  ·rcases D e1 n with⟨_,rfl,rfl⟩|⟨_,g1,g2⟩
   ·exact .inr f
   ·exact .inl (.inr ⟨j,c,s,g1,g2,f⟩)
 have g1:zw (sub (λx=>¬Ow F α σ x/\¬foot (some v) b x) H') (Gz F (α.set i (some b)) (σ.set i (some v)) H'):=zm λa o h e=>⟨λz=>(ow z).elim h.1 h.2,e⟩;have L:zw (Gz F α σ H) (sub (λx=>¬Ow F α σ x/\¬foot (some v) b x) H'):=zm λa o h e=>⟨⟨h,λz=>by rw[hn a z]at e;cases e⟩,k a o e (m.tp.nt (ow0 h))⟩;refine⟨by rw[z31,z31];exact m.len,λj c s e1 n=>?_,λj E c d s s' x e1 n N J f1 f2=>?_,λj r q e E c s x e1 n f=>?_,t,m.keep.trans k,P.oex⟩
 ·rcases D e1 n with⟨rfl,rfl,rfl⟩|⟨_,u,p⟩
  ·exact hok.stay g1 (λx o f e=>by
    obtain⟨B,C,_⟩:=tQ hok f;exact⟨e,B,C⟩) rfl λ_ _ _ l=>l
  ·exact(m.ok j c s u p).stay (L.trans g1) (λx o f e=>by
    obtain⟨B,C,_⟩:=m.ft u p f;exact⟨k x o e (m.tp.nt B),B,C⟩) rfl λ_ _ _ l=>l.kz k t
 ·have nn:∀{j:Nat} {c:A} {s:Option V},α[j]?=some (some c)->σ[j]?=some s->foot s c x->¬foot (some v) b x:=λ{j c s} u p f g=>by
   obtain⟨_,_,o,w,_⟩:=m.ft u p f;rw[hn x g]at w;cases w
  rcases D e1 N with⟨rfl,rfl,rfl⟩|⟨_,u,p⟩
  ·rcases D n J with⟨rfl,_⟩|⟨_,B,C⟩
   ·rfl
   ·exact absurd f1 (nn B C f2)
  ·rcases D n J with⟨rfl,rfl,rfl⟩|⟨_,B,C⟩
   ·exact absurd f2 (nn u p f1)
   ·exact m.dj j E c d s s' x u B p C f1 f2
 ·rcases zz e with⟨rfl,z⟩|⟨_,I⟩
  ·cases z;exact Q.elim
  ·rcases D e1 n with⟨rfl,rfl,rfl⟩|⟨_,u,p⟩
   ·exact(m.lnk I).none (hn x f)
   ·exact m.xd j r q I E c s x u p f
theorem M.set {i:Nat}{v:V}{d:PyData}(m:M F α σ H)(av:AV (Gz F α σ H) v d):M F (α.set i (some (.dat d))) (σ.set i (some v)) H:=
 m.store m.tp Kz.refl (λx z=>z.elim) ⟨v,rfl,av.same (zm λa o h e=>⟨⟨h,λz=>z⟩,e⟩)⟩
theorem M.setC {i:Nat}{v:V}{c:PyData}{H':Hp}(m:M F α σ H)(t:zD F H')(k:Kz F H H')(fl:kr F α σ H v H' c):M F (α.set i (some (.ow c))) (σ.set i (some v)) H':=by
 obtain⟨l,o,rfl,b,d,g⟩:=fl;have nl:¬Ow F α σ l:=m.fresh b;refine m.store t k (λx z=>?_) ⟨l,o,rfl,d,g.same (zm λa o h e=>⟨⟨h.1,λz=>h.2 (by cases z;rfl)⟩,e⟩),ow0 nl,m.fresh0 b⟩;have f:some (V.ref l)=some (.ref x):=z;cases f;exact b
theorem M.setOwn {i:Nat}{v:V}{ds:List PyData}{H':Hp}(m:M F α σ H)(t:zD F H')(k:Kz F H H')(fl:yK F α σ H v H' ds):M F (α.set i (some (.own ds))) (σ.set i (some v)) H':=m.setC t k fl.c
theorem M.wr {x:Addr}{o:HO}(m:M F α σ H)(hno:wt o)(d:F.O0 x)(g:∀t b c,F.tp=some (t,b,c)->x≠t/\x≠b/\x≠c)(h0:F.H0 x=none)(hpl:Plain H x)(A:∀(i:Nat) r q,α[i]?=some (some (.exc r q))->r.H0 x=none):M F α σ (upd H x o):=by
 have B:zw (Gz F α σ H) (Gz F α σ (upd H x o)):=zm λa u h e=>⟨h,by rw[zc (λz=>h (.inl (by rw[z];exact d)))];exact e⟩;refine⟨m.len,λj c s e1 v=>?_,m.dj,m.xd,m.tp.upd g hpl,λy u e n=>?_,λy hy=>?_⟩
 ·have:=m.ok j c s e1 v;cases c with
  |exc r q=>
   have l:Lnk r F H:=this;exact⟨l.tp,l.o,l.ok.upd (λa b c e=>g a b c (l.tp▸e)) hpl,λy u e n=>by rw[zc (zh e (A j r q e1))];exact l.k y u e n⟩
  |_=>exact this.stay B (λy u f e=>by
    obtain⟨p,C,_⟩:=m.ft e1 v f;exact⟨by rw[zc (λz=>p (by rw[z];exact d))];exact e,p,C⟩) rfl λ_ _ z=>by cases z
 ·rw[zc (zh e h0)];exact m.keep y u e n
 ·by_cases z:y=x
  ·exact⟨o,by rw[z];exact zf,hno⟩
  ·obtain⟨u,w,hn⟩:=m.oex y hy;exact⟨u,by rw[zc z];exact w,hn⟩
theorem M.forget {b:Ev}(m:M F α σ H)(p:b.length=α.length)(le:∀(i:Nat) a,b[i]?=some (some a)->α[i]?=some (some a)):M F b σ H:=by
 have ow:∀{y:Addr},Ow F b σ y->Ow F α σ y:=λ{y} h=>by
  rcases h with z|⟨j,c,s,e1,g,f⟩
  ·exact .inl z
  ·exact .inr ⟨j,c,s,le _ _ e1,g,f⟩
 have n:zw (Gz F α σ H) (Gz F b σ H):=zm λa o h e=>⟨λz=>h (ow z),e⟩;exact⟨p.trans m.len,λj c s e1 g=>(m.ok j c s (le _ _ e1) g).stay n (λx o f e=>⟨e,(m.ft (le _ _ e1) g f).1,(m.ft (le _ _ e1) g f).2.1⟩) rfl λ_ _ _ l=>l,λj k c d s s' x e1 g=>m.dj j k c d s s' x (le _ _ e1) (le _ _ g),λj r q e k c s x e1=>m.xd j r q (le _ _ e) k c s x (le _ _ e1),m.tp,m.keep,m.oex⟩
theorem uU {H:Hp}:∀{is:List Nat}{ds:List PyData}{α α':Ev}{σ:St}{xs:List V}{R:St->Hp->Prop},xT is ds α=some α'->M F α σ H->(∀G,zw (Gz F α σ H) G->AVs G xs ds)->(∀b,M F α' b H->R b H)->gIs is xs σ H R
 |[],[],α,α',σ,xs,R,e,m,av,k=>by
  cases e;cases av _ (zw.refl _);exact⟨rfl,k σ m⟩
 |i::is,d::ds,α,α',σ,xs,R,e,m,av,k=>by
  cases h:av _ (zw.refl _)with
  |@cons x xs _ _ h1 h2=>
   refine⟨x,xs,rfl,?_⟩;have n:zw (Gz F α σ H) (Gz F (α.set i (some (.dat d))) (σ.set i (some x)) H):=zm λa o h e=>⟨λz=>h (by
    rcases z with z|⟨j,c,s,e1,l,f⟩
    ·exact .inl z
    ·rcases zz e1 with⟨_,z⟩|⟨p,g⟩
     ·cases z;exact f.elim
     ·rw[z50 p]at l;exact .inr ⟨j,c,s,g,l,f⟩),e⟩
   exact uU (is:=is) (ds:=ds) e (m.set (i:=i) h1) (λG s=>h2.same (n.trans s)) k
 |[],_::_,_,_,_,_,_,e,_,_,_=>by cases e
 |_::_,[],_,_,_,_,_,e,_,_,_=>by cases e
theorem Pat.nest_inv {i:Nat}{is:List Nat}{d:PyData}(e:(Pat.nest i is).bind d α=some α'):∃a ds,d=.tuple [a,.tuple ds]/\xT is ds (α.set i (some (.dat a)))=some α':=by
 cases d with
 |tuple xs=>
  cases xs with
  |nil=>cases e
  |cons a r=>
   cases r with
   |nil=>cases e
   |cons b r=>
    cases r with
    |nil=>
     cases b with
     |tuple ds=>exact⟨_,_,rfl,e⟩
     |_=>cases e
    |cons _ _=>cases b<;>cases e
 |_=>cases e
theorem qI :∀{is:List Nat}{ds:List PyData}{α α':Ev},xT is ds α=some α'->ds.length=is.length:=by
 intro is
 induction is with
 |nil=>intro ds α α' h;cases ds with|nil=>rfl|cons _ _=>cases h
 |cons i is a=>intro ds α α' h;cases ds with|nil=>cases h|cons d ds=>rw[z00,z00,a h]
theorem iq {K:PySem.W.Frag}{pat:Pat}{d:PyData}{v:V}{R:St->Hp->Prop}(e:pat.bind d α=some α')(m:M F α σ H)(av:AV (Gz F α σ H) v d)(k:∀g,M F α' g H->R g H):ng K pat v σ H R:=by
 cases pat with
 |one i=>cases e;exact k _ (m.set av)
 |many is=>
  cases d with
  |tuple ds=>
   obtain⟨a,xs,rfl,n,l⟩:=av.tup_inv;exact⟨a,xs,rfl,SqT.of (zb n).2,by rw[l.length];exact qI e,uU e m (λG s=>l.same s) k⟩
  |_=>cases e
 |nest i is=>
  obtain⟨x,ds,rfl,e⟩:=Pat.nest_inv e;obtain⟨a,xs,rfl,n,l⟩:=av.tup_inv;cases l with
  |@cons x0 r _ _ z1 z2=>
   cases z2 with
   |@cons x1 r _ _ z3 z4=>
    cases z4;have m1:=m.set (i:=i) z1;have w:zw (Gz F α σ H) (Gz F (α.set i (some (.dat x))) (σ.set i (some x0)) H):=zm λa o h e=>⟨λz=>h (by
     rcases z with z|⟨j,c,s,e1,q,f⟩
     ·exact .inl z
     ·rcases zz e1 with⟨_,z⟩|⟨A,p⟩
      ·cases z;exact f.elim
      ·rw[z50 A]at q;exact .inr ⟨j,c,s,p,q,f⟩),e⟩
    obtain⟨b,ys,rfl,y,t⟩:=(z3.same w).tup_inv;exact⟨a,_,rfl,SqT.of (zb n).2,rfl,_,_,rfl,_,_,rfl,⟨b,ys,rfl,SqT.of (zb y).2,by rw[t.length];exact qI e,uU e m1 (λG s=>t.same s) λg u=>⟨rfl,k g u⟩⟩⟩
theorem tY :∀{is:List Nat}{ds:List PyData}{α α':Ev},xT is ds α=some α'->α'.length=α.length
 |[],[],_,_,e=>by cases e;rfl
 |i::is,d::ds,α,α',e=>by
  have:=tY (is:=is) (ds:=ds) e
  rwa [z31]at this
 |[],_::_,_,_,e=>by cases e
 |_::_,[],_,_,e=>by cases e
theorem su :∀{is:List Nat}{ds:List PyData}{α α':Ev}{j:Nat},xT is ds α=some α'->j∉is->α'[j]?=α[j]?
 |[],[],_,_,_,e,_=>by cases e;rfl
 |i::is,d::ds,α,α',j,e,h=>by
  rw[su (is:=is) (ds:=ds) e λz=>h (zY6 _ z)];exact z50 λ(z:i=j)=>h (by rw[<-z];exact zY9)
 |[],_::_,_,_,_,e,_=>by cases e
 |_::_,[],_,_,_,e,_=>by cases e
theorem sT :∀{is:List Nat}{ds:List PyData}{α α':Ev}{j:Nat}{a:A},xT is ds α=some α'->α'[j]?=some (some a)->(∀d,a≠.dat d)->α[j]?=some (some a)
 |[],[],_,_,_,_,e,h,_=>by cases e;exact h
 |i::is,d::ds,α,α',j,a,e,h,hn=>by
  rcases zz (sT (is:=is) (ds:=ds) e h hn)with⟨_,z⟩|⟨_,z⟩
  ·cases z;exact absurd rfl (hn d)
  ·exact z
 |[],_::_,_,_,_,_,e,_,_=>by cases e
 |_::_,[],_,_,_,_,e,_,_=>by cases e
theorem Pat.is_ok {pat:Pat}{d:PyData}(e:pat.bind d α=some α'):∃is ds,pat.slots=is/\xT is ds α=some α':=by
 cases pat with
 |one i=>cases e;exact⟨_,[d],rfl,rfl⟩
 |many is=>
  cases d with
  |tuple ds=>exact⟨_,ds,rfl,e⟩
  |_=>cases e
 |nest i is=>
  obtain⟨a,ds,rfl,e⟩:=Pat.nest_inv e;exact⟨_,a::ds,rfl,e⟩
theorem Pat.back {pat:Pat}{d:PyData}(e:pat.bind d α=some α')(fr:pat.free α=true)(m:M F α' σ H):M F α σ H:=by
 obtain⟨is,ds,rfl,e⟩:=Pat.is_ok e;refine m.forget (tY e).symm λj a h=>?_;by_cases b:j∈pat.slots
 ·have:=ya8.mp fr j b;unfold isFree at this;rw[h]at this;cases this
 ·rw[su e b];exact h
end
section
variable {X:Cx}{α:Ev}
def fP (X:Cx)(α:Ev)(ifs:List Expr)(Q:Bool->Prop):Prop:=∀(F:Fr) (σ:St) (H:Hp) (R:Bool->Hp->Prop),M F α σ H->(∀b H',Q b->zD F H'->Kz F H H'->R b H')->∃t,vk X ifs t/\t σ H R
def zt5 (X:Cx)(ifs:List Expr):TT:=λσ H R=>∃t,vk X ifs t/\t σ H R
theorem pH {ifs:List Expr}:vk X ifs (zt5 X ifs):=λpins s σ H Q I a=>by obtain⟨t,p,q⟩:=a;exact p pins s σ H Q I q
theorem aQ {Q:Bool->Prop}(q:Q true):fP X α [] Q:=λF σ H R m k=>⟨_,zn4,k _ H q m.tp Kz.refl⟩
theorem xW {c:Expr}{Q:Bool->Prop}(h:EvT X α c Q):fP X α [c] Q:=λF σ H R m k=>⟨_,jY xk,h F σ H R m k⟩
def seen :Option A->Option A
 |some (.dat d)=>some (.dat d)
 |some .tape=>some .tape
 |_=>none
def yA (imp:List (Option Nat))(α:Ev):Ev:=imp.map λo=>o.bind λj=>(α[j]?).bind seen
theorem lB {imp:List (Option Nat)}{i:Nat}{a:A}(h:(yA imp α)[i]?=some (some a)):∃j,imp[i]?=some (some j)/\α[j]?=some (some a)/\((∃d,a=.dat d)\/a=.tape):=by
 unfold yA at h;rw[zZ1,zZ6]at h;obtain⟨o,f,e⟩:=h;cases o with
 |none=>cases e
 |some j=>
  have c:(α[j]?).bind seen=some a:=e;cases q:α[j]? with
  |none=>rw[q]at c;cases c
  |some b=>
   rw[q]at c;cases b with
   |none=>cases c
   |some b=>
    cases b with
    |dat d=>cases c;exact⟨j,f,q,.inl ⟨d,rfl⟩⟩
    |tape=>cases c;exact⟨j,f,q,.inr rfl⟩
    |_=>cases c
theorem nN {imp:List (Option Nat)}{σ:St}{i j:Nat}{v:V}(b:imp[i]?=some (some j))(a:σ[j]?=some (some v)):(wa imp σ)[i]?=some (some v):=by
 unfold wa;rw[zZ1,b];show some ((σ[j]?).bind id)=_;rw[a];rfl
def xf (Y:Addr->Shared->Hp->List Addr->Cx)(pat:Pat)(ifs:List Expr)(elt:Expr)(b:Ev):List PyData->List PyData->(List PyData->Prop)->Prop
 |[],acc,Q=>Q acc
 |d::ds,acc,Q=>∃a,pat.bind d b=some a/\∀C s2 c fp,fP (Y C s2 c fp) a ifs λk=>if k=true then ∀C s2 c fp,EvD (Y C s2 c fp) a elt λy=>xf Y pat ifs elt b ds (acc++[y]) Q else xf Y pat ifs elt b ds acc Q
def eC (Y:Addr->Shared->Hp->List Addr->Cx)(e:Expr):TE:=λσ H Q=>∀C s2 a fp,uF (Y C s2 a fp) e σ H Q
def tsC (Y:Addr->Shared->Hp->List Addr->Cx)(ifs:List Expr):TT:=λσ H Q=>∀C s2 a fp,zt5 (Y C s2 a fp) ifs σ H Q
theorem oY {N:List Str}{imp:List (Option Nat)}{scope:Scope}{tg iter elt:Expr}{ifs:List Expr}{pat:Pat}{Q:List PyData->Prop}(G:pat.free (yA imp α)=true)
  (h:EvI X α tg iter λds=>ds.length<=1000/\xf (λC s2 A fp=>X.comp N scope C s2 A fp) pat ifs elt (yA imp α) ds [] Q)
  (F:Fr) (σ:St) (H:Hp) (R:VK) (m:M F α σ H) (k:∀ds v H',Q ds->zD F H'->Kz F H H'->yK F α σ H v H' ds->R v H'):
  ∃Y:Addr->Shared->Hp->List Addr->Cx,Y=(λC s2 A fp=>X.comp N scope C s2 A fp)/\aY (zI8 X tg iter) imp (ng X.K pat) (tsC Y ifs) (eC Y elt) σ H R:=by
 refine⟨_,rfl,?_⟩;refine h F σ H _ m λds J H1 b2 t1 k1 a7 acc g=>?_;obtain⟨hl,q1⟩:=b2;have m1:=m.kz k1 t1;have b8:¬Ow F α σ acc:=m1.fresh g
 let u:Fr:=⟨H1,λx=>Ow F α σ x\/x=acc,F.tp⟩
 let Nd:Ev->Prop:=λl=>∀(j:Nat) a,l[j]?=some (some a)->(∃d,a=.dat d)\/a=.tape
 have B:Nd (yA imp α):=λj a z=>by
  obtain⟨_,_,_,n⟩:=lB z;exact n
 have owc:∀{l:Ev} {O:St} {x:Addr},Nd l->(Ow u l O x↔u.O0 x):=λ{l O x} hh=>⟨λz=>z.elim id λa8=>by
  obtain⟨j,a,s,e1,W,f⟩:=a8;rcases hh j a e1 with⟨d,rfl⟩|rfl
  ·exact f.elim
  ·exact f.elim,.inl⟩
 have gz:∀{l a4:Ev} {D τ2:St} {H:Hp},Nd l->Nd a4->zw (Gz u l D H) (Gz u a4 τ2 H):=λh1 h2=>zm λa o h e=>⟨λz=>h ((owc h1).mpr ((owc h2).mp z)),e⟩;have b3:∀{A:Hp},zD F A->zD u A:=λt=>t.to rfl λx z=>.inl (.inl z);have V:zw H1 (upd H1 acc (.lst [])):=zW g;have a6:M u (yA imp α) (wa imp σ) (upd H1 acc (.lst [])):=by
  have g1:zw (Gz F α σ H1) (Gz u (yA imp α) (wa imp σ) (upd H1 acc (.lst []))):=λa o e=>by
   obtain⟨z1,Z⟩:=zb e;have na:a≠acc:=zh Z g;exact zu (λz=>((owc B).mp z).elim z1 na) (by rw[zc na];exact Z)
  refine⟨by unfold yA wa;rw[zX7,zX7],λi a s e1 W=>?_,λi j a b s t x e1 W _ _ f=>?_,λi r q e=>(by rcases B i _ e with⟨d,w⟩|w<;>cases w),b3 (t1.same V),λx o e _=>V x o e,?_⟩
  ·obtain⟨j,w1,w2,w3⟩:=lB e1;rcases w3 with⟨d,rfl⟩|rfl
   ·obtain⟨v,g2,g3⟩:=m1.dat j d w2;rw[nN w1 g2]at W;cases W;exact⟨v,rfl,g3.same g1⟩
   ·obtain⟨t,b,c,g2,g3⟩:=m1.tvar j w2;rw[nN w1 g3]at W;cases W;exact⟨t,b,c,g2,rfl⟩
  ·rcases B i a e1 with⟨d,rfl⟩|rfl
   ·exact f.elim
   ·exact f.elim
  ·rintro x (z|z)
   ·have:∃o,H1 x=some o/\wt o:=m1.owEx z;obtain⟨o,ho,hn⟩:=this;exact⟨o,V _ _ ho,hn⟩
   ·exact⟨_,by rw[z];exact zf,yQ⟩
 refine⟨λi n ys O A=>n=ds.length-i/\i<=ds.length/\∃ad:List PyData,M u (yA imp α) O A/\A acc=some (.lst ys)/\AVs (Gz u (yA imp α) O A) ys ad/\ad.length<=i/\xf (λC s2 A fp=>X.comp N scope C s2 A fp) pat ifs elt (yA imp α) (ds.drop i) ad Q,
  ⟨ds.length,by simp,zZ4 _,[],a6,zf,.nil,zY1 _,q1⟩,?_⟩
 rintro i n ys O A ⟨rfl,hi,ad,m2,ha,av,had,cw⟩;have sG:zw (Gz F α σ H1) (Gz u (yA imp α) O A):=λa o e=>by
  obtain⟨z1,Z⟩:=zb e;exact m2.old a o (zu (p:=λx=>¬u.O0 x) (λz=>z.elim z1 (zh Z g)) Z)
 obtain⟨w1,w2⟩:=a7 i A _ sG;by_cases I:i<ds.length
 ·have hd:ds[i]?=some ds[i]:=zY0 I;have b1:ds.drop i=ds[i]::ds.drop (i+1):=ya4 I;rw[b1]at cw;obtain⟨l,eb,body⟩:=cw;obtain⟨go,yl⟩:=w1 _ hd;have E:Nd l:=λj a z=>by
   obtain⟨is,ds',_,e⟩:=Pat.is_ok eb;by_cases hn:∀d,a≠.dat d
   ·exact B j a (sT e z hn)
   ·simp only[Classical.not_forall,Classical.not_not]at hn;exact .inl hn
  refine .inr ⟨go,λU T H'=>∃ad:List PyData,M u (yA imp α) T H'/\H' acc=some (.lst U)/\AVs (Gz u (yA imp α) T H') U ad/\ad.length<=i+1/\xf (λC s2 A fp=>X.comp N scope C s2 A fp) pat ifs elt (yA imp α) (ds.drop (i+1)) ad Q,
   λU T H' b0=>by obtain⟨b7,r1,r2,r3,r4,r5⟩:=b0;exact⟨ds.length-(i+1),(om0 I),rfl,I,b7,r1,r2,r3,r4,r5⟩,λx H3 y=>?_⟩
  obtain⟨L,b4⟩:=yl x H3 y;have m3:M u (yA imp α) O H3:=m2.kz (Kz.of_same L) (m2.tp.same L);have a2:=b4 λa o _ e=>m2.fresh e;refine iq eb m3 a2 λD m4 C s2 b5 fp=>?_;refine body C s2 b5 fp u D H3 _ m4 λb H5 qb t5 k5=>?_;have m5:=m4.kz k5 t5;have a5:AVs (Gz u (yA imp α) D H5) ys ad:=av.same ((Kz.of_same L).gz m2.tp |>.trans ((gz (τ2:=D) B E).trans ((k5.gz m4.tp).trans (gz E B))));have accN:NT u acc:=⟨λt b c e=>by
   have:=(t1 t b c e).1.free g;exact⟨this.1,this.2.1⟩,lP t1.tab g⟩
  have a0:H5 acc=some (.lst ys):=k5 _ _ (L _ _ ha) accN;cases b with
  |false=>
   have a9:xf (λC s2 A fp=>X.comp N scope C s2 A fp) pat ifs elt (yA imp α) (ds.drop (i+1)) ad Q:=by simpa using qb
   exact oC ⟨ad,Pat.back eb G m5,a0,a5,(zY8 had (zZ3 _ _)),a9⟩
  |true=>
   refine oM λC s2 S fp=>?_;have qe:EvD (X.comp N scope C s2 S fp) l elt λy=>xf (λC s2 A fp=>X.comp N scope C s2 A fp) pat ifs elt (yA imp α) (ds.drop (i+1)) (ad++[y]) Q:=by
    have z:=qb;rw[if_pos rfl]at z;exact z C s2 S fp
   refine qe u D H5 _ m5 λy v H6 qy t6 k6 r6=>?_;have m6:=m5.kz k6 t6;have a3:H6 acc=some (.lst ys):=k6 _ _ a0 accN;have hlen:ys.length<=i:=by rw[av.length];exact had
   have P:u.O0 acc:=.inr rfl;have a1:∀t b c,u.tp=some (t,b,c)->acc≠t/\acc≠b/\acc≠c:=λt b c e=>(t1 t b c e).1.free g;have m7:=(Pat.back eb G m6).wr (o:=.lst (ys++[v])) yQ P a1 g (qw a3) (λi r q z=>by rcases B i _ z with⟨d,w⟩|w<;>cases w);refine⟨a3,ye (by lia),ad++[y],m7,zf,?_,by simp;exact had,qy⟩;have b6:zw (Gz u (yA imp α) D H6) (Gz u (yA imp α) D (upd H6 acc (.lst (ys++[v])))):=zm λa o h e=>⟨h,by rw[zc (λz=>h (.inl (by rw[z];exact P)))];exact e⟩;exact((a5.same ((gz (τ2:=D) B E).trans ((k6.gz m5.tp).trans (gz E B)))).append (.cons (r6.same (gz E B)) .nil)).same b6
 ·have e:i=ds.length:=(z87 hi (z86 I));subst e;rw[yg6]at cw;refine .inl ⟨w2 (zY1 _),k ad _ A cw ?_ (k1.trans m2.keep) (yK.back m k1 t1 ⟨acc,ys,rfl,g,ha,av.same (zm λa o h e=>⟨⟨λz=>h (.inl (.inl z)),λz=>h (.inl (.inr z))⟩,e⟩)⟩)⟩;exact m.tp.re m2.tp rfl
theorem zw8 {N:List Str}{imp:List (Option Nat)}{scope:Scope}{tg iter elt:Expr}{ifs:List Expr}{pat:Pat}{Q:List PyData->Prop}{pos:Pos}(c:X.calm=true)(S:zM X.N X.env.scope N imp scope)(b:pat.free (yA imp α)=true)
  (hg:∀C s2 a fp,PG (X.comp N scope C s2 a fp) tg (ng X.K pat))
  (h:EvI X α tg iter λds=>ds.length<=1000/\xf (λC s2 a fp=>X.comp N scope C s2 a fp) pat ifs elt (yA imp α) ds [] Q) (d:∀x,foldedSetIterable iter X.env x=pure x:=by intro _;rfl):
  EvL X α (.ListComp elt [⟨tg,iter,ifs,0⟩] scope pos) Q:=λF σ H R m k=>by
 obtain⟨Y,rfl,h⟩:=oY b h F σ H R m k;exact⟨_,zx6 c S tU hg (λC s2 a fp pins s σ H Q I h=>pH pins s σ H Q I (h C s2 a fp)) (λC s2 a fp pins s σ H Q I h=>zg pins s σ H Q I (h C s2 a fp)) d,h⟩
section
variable {E:yp}{rest body:List Stmt}{e c tg iter:Expr}{pos p:Pos}
theorem mi.then {F:Fr}{D:Ends}(h:mi F E D):mi F {E with nx:=λa=>SvS X a rest E} {D with nx:=ja X rest D}:=
 ⟨λa b H' m q=>q F b H' D m h,h.rt,h.bk,h.ct⟩
theorem zS (q:E.nx α):SvS X α [] E:=λF σ H D m h=>⟨_,oS,h.nx _ _ _ m q⟩
theorem SvS.imp {b:List Stmt}{d:yp}(h:SvS X α b d)(hn:∀α,d.nx α->E.nx α)(hr:∀a,d.rt a->E.rt a)(hb:∀α,d.bk α->E.bk α)(f:∀α,d.ct α->E.ct α):SvS X α b E:=λF σ H D m r=>
 h F σ H D m ⟨λα σ H m q=>r.nx α σ H m (hn _ q),λa v H m q=>r.rt a v H m (hr _ q),λα σ H m q=>r.bk α σ H m (hb _ q),λα σ H m q=>r.ct α σ H m (f _ q)⟩
theorem yj (i:Nat){x:Str}{pos':Pos}(j:X.N.Nodup)(h:EvD X α e λd=>SvS X (α.set i (some (.dat d))) rest E)(hi:X.N[i]?=some x:=by rfl)(f:Loc X.env.scope x:=by first|exact Or.inl rfl|exact Or.inr rfl)
  (g:swapsWith e (some (.Name x pos')) pos.line X.env=pure false:=by rfl) (hf:X.fn x=true\/X.env.scope.names.lookup x=some .local:=by first|exact .inl rfl|exact .inr rfl|assumption):SvS X α (.Assign [.Name x pos'] e pos::rest) E:=λF σ H D m r=>by
 refine⟨_,zy (xP j hi f zg g hf) zE,?_⟩;exact h F σ H _ m λd v H1 a t1 k1 b=>a F _ H1 D ((m.kz k1 t1).set b) r
theorem xO (i:Nat){x:Str}{pos':Pos}(j:X.N.Nodup)(h:EvL X α e λds=>SvS X (α.set i (some (.own ds))) rest E)(hi:X.N[i]?=some x:=by rfl)(f:Loc X.env.scope x:=by first|exact Or.inl rfl|exact Or.inr rfl)
  (g:swapsWith e (some (.Name x pos')) pos.line X.env=pure false:=by rfl) (hf:X.fn x=true\/X.env.scope.names.lookup x=some .local:=by first|exact .inl rfl|exact .inr rfl|assumption):SvS X α (.Assign [.Name x pos'] e pos::rest) E:=λF σ H D m r=>by
 refine⟨_,zy (xP j hi f zg g hf) zE,?_⟩;exact h F σ H _ m λd v H1 a t1 k1 b=>a F _ H1 D (m.setOwn t1 k1 b) r
theorem zv5 (i:Nat){x:Str}{pos' a:Pos}{N:List Str}{imp:List (Option Nat)}{scope:Scope}{elt:Expr}{ifs:List Expr}{pat:Pat}(g:X.N.Nodup)(j:X.calm=true)(S:zM X.N X.env.scope N imp scope)(d:pat.free (yA imp α)=true)
  (hg:∀C s2 b fp,PG (X.comp N scope C s2 b fp) tg (ng X.K pat))
  (h:EvI X α tg iter λds=>ds.length<=1000/\xf (λC s2 b fp=>X.comp N scope C s2 b fp) pat ifs elt (yA imp α) ds [] λds=>SvS X (α.set i (some (.own ds))) rest E)
  (hi:X.N[i]?=some x:=by rfl) (l:Loc X.env.scope x:=by first|exact Or.inl rfl|exact Or.inr rfl) (f:swapsWith (.ListComp elt [⟨tg,iter,ifs,0⟩] scope a) (some (.Name x pos')) pos.line X.env=pure true:=by rfl)
  (hf:X.fn x=true\/X.env.scope.names.lookup x=some .local:=by first|exact .inl rfl|exact .inr rfl|assumption) (n:∀x,foldedSetIterable iter X.env x=pure x:=by intro _;rfl):
  SvS X α (.Assign [.Name x pos'] (.ListComp elt [⟨tg,iter,ifs,0⟩] scope a) pos::rest) E:=λF σ H D m r=>by
 obtain⟨Y,rfl,h⟩:=oY d h F σ H (λv H'=>ja X rest D (σ.set i (some v)) H') m λds v H' q t k fl=>q F _ H' D (m.setOwn t k fl) r;exact⟨_,zy (lM j S tU hg (λC s2 b fp pins s σ H Q I h=>pH pins s σ H Q I (h C s2 b fp)) (λC s2 b fp pins s σ H Q I h=>zg pins s σ H Q I (h C s2 b fp)) g hi l f hf n) zE,h⟩
theorem wO.dat {F:Fr}{σ:St}{H:Hp}{v:V}{d:PyData}(m:M F α σ H)(r:AV (Gz F α σ H) v d):wO F v H (.dat d):=
 ⟨m.tp,m.keep,r.same (zm λa o h e=>⟨ow0 h,e⟩)⟩
theorem xR (h:EvD X α e λd=>E.rt (.dat d)):SvS X α (.Return (some e) pos::rest) E:=λF σ H D m r=>by
 refine⟨_,zy (ub zg) zE,?_⟩;exact h F σ H _ m λd v H1 a t1 k1 b=>r.rt _ _ _ (wO.dat (m.kz k1 t1) b) a
theorem vB (h:EvL X α e λds=>E.rt (.own ds)):SvS X α (.Return (some e) pos::rest) E:=λF σ H D m r=>by
 refine⟨_,zy (ub zg) zE,?_⟩;refine h F σ H _ m λd v H1 f t1 k1 g=>r.rt _ _ _ ?_ f;obtain⟨l,xs,j,b,k,i⟩:=g;exact⟨t1,m.keep.trans k1,l,xs,_,j,rfl,m.fresh0 b,ow0 (m.fresh b),k,i.same (zm λa o h e=>⟨⟨ow0 h.1,h.2⟩,e⟩)⟩
theorem wH (i:Nat){x:Str}{ds:List PyData}(hi:α[i]?=some (some (.own ds)))(q:E.rt (.own ds))(s:X.N[i]?=some x:=by rfl)(n:Vis X.env.scope x:=by first|exact Or.inl rfl|exact Or.inr (Or.inl rfl)|exact Or.inr (Or.inr rfl))
  (hd:(x == ("__debug__":Str))=false:=by decide) (b:(x == ("__classdict__":Str))=false:=by decide):SvS X α (.Return (some (.Name x p)) pos::rest) E:=λF σ H D m r=>by
 obtain⟨l,xs,d,f,k,j,g⟩:=m.own i ds hi;refine⟨_,zy (ub (yF s n hd b)) zE,.ref l,d,r.rt (.own ds) _ _ ⟨m.tp,m.keep,l,xs,_,rfl,rfl,g,j,f,k.same (zm λa o h e=>⟨⟨ow0 h,λz=>h (by rw[z];exact .inr ⟨i,_,_,hi,d,rfl⟩)⟩,e⟩)⟩ q⟩
theorem zm5 (i:Nat){x:Str}{pos':Pos}(j:X.N.Nodup)(h:EvC X α e λc=>SvS X (α.set i (some (.ow c))) rest E)(hi:X.N[i]?=some x:=by rfl)(f:Loc X.env.scope x:=by first|exact Or.inl rfl|exact Or.inr rfl)
  (g:swapsWith e (some (.Name x pos')) pos.line X.env=pure false:=by rfl) (hf:X.fn x=true\/X.env.scope.names.lookup x=some .local:=by first|exact .inl rfl|exact .inr rfl|assumption):SvS X α (.Assign [.Name x pos'] e pos::rest) E:=λF σ H D m r=>by
 refine⟨_,zy (xP j hi f zg g hf) zE,?_⟩;exact h F σ H _ m λd v H1 a t1 k1 b=>a F _ H1 D (m.setC t1 k1 b) r
theorem uq {a b:List Stmt}(h:EvT X α c λk=>SvS X α (if k=true then a else b) {E with nx:=λd=>SvS X d rest E}):SvS X α (.If c a b pos::rest) E:=λF σ H D m r=>by
 refine⟨_,zy (ae xk zE zE) zE,?_⟩;refine h F σ H _ m λk H1 f t1 k1=>?_;cases k with
 |true=>exact oM ((by simpa using f:SvS X α a _) F σ H1 _ (m.kz k1 t1) r.then)
 |false=>exact oC ((by simpa using f:SvS X α b _) F σ H1 _ (m.kz k1 t1) r.then)
theorem pJ (i:Nat){ds:List PyData}{a:List Stmt}(hi:α[i]?=some (some (.own ds)))(h:SvS X (α.set i (some (.dat (.list ds)))) a E):SvS X α a E:=λF σ H D m r=>h F σ H D (m.frz hi) r
theorem M.wrC {F:Fr}{σ:St}{H:Hp}{i:Nat}{c c':PyData}{l:Addr}{o':HO}(m:M F α σ H)(hi:α[i]?=some (some (.ow c)))(v:σ[i]?=some (some (.ref l)))(av:yC (Gz F α σ H) o' c'):
  M F (α.set i (some (.ow c'))) σ (upd H l o'):=by
 obtain⟨Y,o,O,Q,S,I,N⟩:=m.owc i c hi;rw[v]at O;cases O;have B:∀{j:Nat} {a:A} {s:Option V},(α.set i (some (.ow c')))[j]?=some (some a)->σ[j]?=some s->(i=j/\a=.ow c'/\s=some (.ref l))\/(i≠j/\α[j]?=some (some a)):=λ{j a s} e1 g=>by
  rcases zz e1 with⟨rfl,z⟩|⟨C,d⟩
  ·cases z;rw[v]at g;cases g;exact .inl ⟨rfl,rfl,rfl⟩
  ·exact .inr ⟨C,d⟩
 have J:∀{y:Addr},Ow F (α.set i (some (.ow c'))) σ y->Ow F α σ y:=λ{y} h=>by
  rcases h with z|⟨j,a,s,e1,g,f⟩
  ·exact .inl z
  ·rcases B e1 g with⟨rfl,rfl,rfl⟩|⟨C,d⟩
   ·exact .inr ⟨i,_,_,hi,v,f⟩
   ·exact .inr ⟨j,a,s,d,g,f⟩
 have ol:Ow F α σ l:=.inr ⟨i,_,_,hi,v,rfl⟩;have R:zw (Gz F α σ H) (Gz F (α.set i (some (.ow c'))) σ (upd H l o')):=zm λa o h e=>⟨λz=>h (J z),by rw[zc (λz=>h (by rw[z];exact ol))];exact e⟩;refine⟨by rw[z31];exact m.len,λj a s e1 g=>?_,λj G a b s t x e1 g K D f1 f2=>?_,λj r q e G a s x e1 g f=>?_,m.tp.updO I (S.plain Q),λy o e n=>?_,λy hy=>?_⟩
 ·rcases B e1 g with⟨rfl,rfl,rfl⟩|⟨C,d⟩
  ·exact⟨l,o',rfl,zf,av.same R,I,N⟩
  ·refine(m.ok j a s d g).stay R (λy u f e=>?_) rfl λr q T k=>⟨k.tp,k.o,k.ok.updO (λz=>I (k.o _ z)) (S.plain Q),λy u e n=>?_⟩
   ·obtain⟨W,U,_⟩:=m.ft d g f;refine⟨?_,W,U⟩;rw[zc λz=>C (m.dj i j _ a _ s l hi d v g rfl (by rw[<-z];exact f))];exact e
   ·rw[zc (zh e (m.xd j r q (by rw[<-T];exact d) i _ _ l hi v rfl))];exact k.k y u e n
 ·rcases B e1 K with⟨rfl,rfl,rfl⟩|⟨C,d⟩
  ·rcases B g D with⟨rfl,_⟩|⟨L,w⟩
   ·rfl
   ·exact m.dj i G _ b _ t x hi w v D f1 f2
  ·rcases B g D with⟨rfl,rfl,rfl⟩|⟨L,w⟩
   ·exact m.dj j i a _ s _ x d hi K v f1 f2
   ·exact m.dj j G a b s t x d w K D f1 f2
 ·rcases zz e with⟨_,z⟩|⟨_,P⟩
  ·cases z
  ·rcases B e1 g with⟨rfl,rfl,rfl⟩|⟨_,d⟩
   ·exact m.xd j r q P i _ _ x hi v f
   ·exact m.xd j r q P G a s x d g f
 ·rw[zc (zh e N)];exact m.keep y o e n
 ·rw[zc (λz=>I (by rw[<-z];exact hy))];exact m.oex y hy
theorem M.wrOwn {F:Fr}{σ:St}{H:Hp}{i:Nat}{ds a:List PyData}{l:Addr}{ys:List V}(m:M F α σ H)(hi:α[i]?=some (some (.own ds)))(b:σ[i]?=some (some (.ref l)))(av:AVs (Gz F α σ H) ys a):
  M F (α.set i (some (.own a))) σ (upd H l (.lst ys)):=m.wrC hi b (.lst av)
theorem qP (i:Nat){x:Str}{ds:List PyData}{p1 p2 p3:Pos}(hi:α[i]?=some (some (.own ds)))(h:EvD X α e λd=>ds.length<1000/\SvS X (α.set i (some (.own (ds++[d])))) rest E)
  (t:X.N[i]?=some x:=by rfl) (w:Vis X.env.scope x:=by first|exact Or.inl rfl|exact Or.inr (Or.inl rfl)|exact Or.inr (Or.inr rfl)) (hd:(x == ("__debug__":Str))=false:=by decide) (f:(x == ("__classdict__":Str))=false:=by decide)
  (b:attributeBase (.Name x p1) "append" X.env (eval (.Name x p1) X.env)=eval (.Name x p1) X.env:=by rfl) (q:starEach [e] X.env=(false,eval e X.env)::starEach [] X.env:=by rfl)
  (hpl:((((backTo p3 (starEach [e] X.env)).all λx=>!x.fst)&&(backToKw p3 (keywordEach [] X.env)).all λx=>x.fst.isSome)&&decide (([e].length+([]:List Keyword).length+if([]:List Keyword).isEmpty=true then 0 else 1)<30))=true:=by rfl)
  (a:(p2.endLine == p3.line)=true:=by rfl) (g:swapsWith (.Call (.Attribute (.Name x p1) "append" p2) [e] [] p3) none pos.line X.env=pure false:=by rfl):SvS X α (.Expr (.Call (.Attribute (.Name x p1) "append" p2) [e] [] p3) pos::rest) E:=λF σ H D m r=>by
 obtain⟨l,xs,j,k,o,u,y⟩:=m.own i ds hi;refine⟨_,zy (oh (za1 yf2 PySem.F.slot_list_append PySem.F.type_list_append qW (yF t w hd f) (zp zg zF q) b hpl a q) g) zE,?_⟩;refine⟨.ref l,j,.inl ⟨rfl,_,SqL.of k⟩,?_⟩;refine h F σ H _ m λd v H1 n t1 k1 s=>?_;have m1:=m.kz k1 t1;refine⟨l,xs,v,rfl,rfl,k1 _ _ k (m.tp.nt u),by rw[o.length];exact ye (z36 n.1),?_⟩;exact n.2 F σ _ D (m1.wrOwn hi j ((o.same (k1.gz m.tp)).append (.cons s .nil))) r
theorem we (i:Nat){x:Str}{ds:List PyData}{p1 p2 p3:Pos}(hi:α[i]?=some (some (.own ds)))(h:EvD X α e λd=>∃g,d=.list g/\ds.length+g.length<=1000/\SvS X (α.set i (some (.own (ds++g)))) rest E)
  (y:X.N[i]?=some x:=by rfl) (B:Vis X.env.scope x:=by first|exact Or.inl rfl|exact Or.inr (Or.inl rfl)|exact Or.inr (Or.inr rfl)) (hd:(x == ("__debug__":Str))=false:=by decide) (j:(x == ("__classdict__":Str))=false:=by decide)
  (f:attributeBase (.Name x p1) "extend" X.env (eval (.Name x p1) X.env)=eval (.Name x p1) X.env:=by rfl) (t:starEach [e] X.env=(false,eval e X.env)::starEach [] X.env:=by rfl)
  (hpl:((((backTo p3 (starEach [e] X.env)).all λx=>!x.fst)&&(backToKw p3 (keywordEach [] X.env)).all λx=>x.fst.isSome)&&decide (([e].length+([]:List Keyword).length+if([]:List Keyword).isEmpty=true then 0 else 1)<30))=true:=by rfl)
  (a:(p2.endLine == p3.line)=true:=by rfl) (k:swapsWith (.Call (.Attribute (.Name x p1) "extend" p2) [e] [] p3) none pos.line X.env=pure false:=by rfl):SvS X α (.Expr (.Call (.Attribute (.Name x p1) "extend" p2) [e] [] p3) pos::rest) E:=λF σ H D m r=>by
 obtain⟨l,xs,n,o,s,A,C⟩:=m.own i ds hi;refine⟨_,zy (oh (za1 yf2 PySem.F.slot_list_extend PySem.F.type_list_extend gI (yF y B hd j) (zp zg zF t) f hpl a t) k) zE,?_⟩;refine⟨.ref l,n,.inl ⟨rfl,_,SqL.of o⟩,?_⟩;refine h F σ H _ m λd v H1 z t1 k1 u=>?_;have m1:=m.kz k1 t1;obtain⟨g,rfl,w,q⟩:=z;obtain⟨b,ys,rfl,g1,g2⟩:=u.lst_inv;refine⟨l,b,xs,ys,rfl,rfl,k1 _ _ o (m.tp.nt A),(zb g1).2,by rw[s.length,g2.length];exact z36 (ye w),?_⟩;exact q F σ _ D (m1.wrOwn hi n ((s.same (k1.gz m.tp)).append g2)) r
theorem dR (i:Nat){x:Str}{a:Expr}{ds:List PyData}{p1 p2:Pos}(hi:α[i]?=some (some (.own ds)))(h:EvD X α e λd=>EvD X α a λy=>∃k j,y=.int k/\ixN ds.length k=some j/\SvS X (α.set i (some (.own (ds.set j d)))) rest E)
  (J:X.N[i]?=some x:=by rfl) (K:Vis X.env.scope x:=by first|exact Or.inl rfl|exact Or.inr (Or.inl rfl)|exact Or.inr (Or.inr rfl)) (hd:(x == ("__debug__":Str))=false:=by decide) (w:(x == ("__classdict__":Str))=false:=by decide)
  (A:swapsWithSole [.Subscript (.Name x p1) a p2] e pos.line X.env=pure false:=by rfl) (hw:swappedStores [.Subscript (.Name x p1) a p2] e X.env=pure none:=by rfl)
  (ha:(assignEach [.Subscript (.Name x p1) a p2] X.env).map (·.2)=[assign (.Subscript (.Name x p1) a p2) X.env]:=by rfl) (b:PG X (.Subscript (.Name x p1) a p2) (zP5 (zE8 i) (uF X a) zs8):=by exact jv (yF rfl (by first|exact Or.inl rfl|exact Or.inr (Or.inl rfl)|exact Or.inr (Or.inr rfl))) zg set_list):
  SvS X α (.Assign [.Subscript (.Name x p1) a p2] e pos::rest) E:=λF σ H D m r=>by
 obtain⟨l,xs,f,t,n,g,C⟩:=m.own i ds hi;refine⟨_,zy (kC zg b A hw ha) zE,?_⟩;refine h F σ H _ m λd v H1 u t1 k1 s=>?_;have m1:=m.kz k1 t1;refine⟨.ref l,f,?_⟩;refine u F σ H1 _ m1 λy I G o t2 k2 z=>?_;have m2:=m1.kz k2 t2;obtain⟨k,j,rfl,B,q⟩:=o;cases z.int_inv;refine⟨l,xs,k,j,rfl,rfl,k2 _ _ (k1 _ _ t (m.tp.nt g)) (m.tp.nt g),by rw[n.length];exact B,?_⟩;exact q F σ _ D (m2.wrOwn hi f (((n.same (k1.gz m.tp)).same (k2.gz m1.tp)).set (s.same (k2.gz m1.tp)) j)) r
def tH (X:Cx)(pat:Pat)(body rest:List Stmt)(E:yp):List PyData->Ev->Prop
 |[],α=>SvS X α rest E
 |d::ds,α=>∃a,pat.bind d α=some a/\SvS X a body {nx:=tH X pat body rest E ds,ct:=tH X pat body rest E ds,bk:=λb=>SvS X b rest E,rt:=E.rt}
theorem ze7 {pat:Pat}(I:PassesOwn (model X.prog X.w) X.A X.env X.xe)(P:X.calm=true)(hg:PG X tg (ng X.K pat))(h:EvI X α tg iter λds=>tH X pat body rest E ds α)
  (V:∀x,foldedSetIterable iter X.env x=pure x:=by intro _;rfl):SvS X α (.For tg iter body [] pos::rest) E:=λF σ H D m r=>by
 refine⟨_,zy (zB8 I P tU hg zE V) zE,?_⟩;refine h F σ H _ m λds J H1 Q t1 k1 z=>?_;have m1:=m.kz k1 t1;have N:=m1.up;have C:mi (F.up (Gz F α σ H1)) E D:=r.up;refine⟨λi n j H'=>n=ds.length-i/\i<=ds.length/\∃b,M (F.up (Gz F α σ H1)) b j H'/\tH X pat body rest E (ds.drop i) b,⟨ds.length,by simp,zZ4 _,α,N,Q⟩,?_⟩;rintro i n j H' ⟨rfl,hi,b,l,lw⟩;obtain⟨O,U⟩:=z i H' _ (m1.upold l);by_cases d:i<ds.length
 ·have hd:ds[i]?=some ds[i]:=zY0 d;rw[ya4 d]at lw;obtain⟨S,L,body⟩:=lw;obtain⟨go,T⟩:=O _ hd;refine .inr ⟨go,λg t=>∃b,M (F.up (Gz F α σ H1)) b g t/\tH X pat _ rest E (ds.drop (i+1)) b,λg t ⟨s,G,R⟩=>⟨ds.length-(i+1),(om0 d),rfl,d,s,G,R⟩,λx H3 y=>?_⟩;obtain⟨k,v⟩:=T x H3 y;have m3:=l.kz (Kz.of_same k) (l.tp.same k);refine iq L m3 (v λa o _ e=>l.fresh e) λB m4=>?_;exact body _ B H3 _ m4 ⟨λf σ2 u m2 q=>⟨f,m2,q⟩,C.rt,λf σ2 u m2 q=>q _ σ2 u D m2 C,λf σ2 u m2 q=>⟨f,m2,q⟩⟩
 ·have e:i=ds.length:=(z87 hi (z86 d));subst e;rw[yg6]at lw;exact .inl ⟨U (zY1 _),lw _ j H' D l C⟩
theorem zK {pat:Pat}{ds:List PyData}(P:Nat->Ev->Prop)(h0:P 0 α)(j:∀i d α,ds[i]?=some d->P i α->∃f,pat.bind d α=some f/\SvS X f body {nx:=P (i+1),ct:=P (i+1),bk:=λg=>SvS X g rest E,rt:=E.rt})
  (hd:∀α,P ds.length α->SvS X α rest E):tH X pat body rest E ds α:=by
 have key:∀n i α,n=ds.length-i->i<=ds.length->P i α->tH X pat body rest E (ds.drop i) α:=by
  intro n
  induction n with
  |zero=>
   intro i α hn hi p;have e:i=ds.length:=(om5 hn hi);subst e;rw[yg6];exact hd α p
  |succ n h=>
   intro i α hn hi p;have a:i<ds.length:=(om6 hn);rw[ya4 a];obtain⟨f,e,b⟩:=j i ds[i] α (zY0 a) p;exact⟨f,e,b.imp (λα p=>h (i+1) α (om7 hn) a p) (λ_ z=>z) (λ_ z=>z) (λα p=>h (i+1) α (om7 hn) a p)⟩
 exact key _ 0 α rfl (zZ4 _) h0
end
end
section
variable {P:Program}{w:World}{K:PySem.W.Frag}{mg:Str->Option Value}{base:Heap}
theorem M.start {F:Fr}{N:List Str}{vs:List V}{as:List A}{H:Hp}(e:F.H0=H)(t:zD F H)(o:∀x,F.O0 x->∃u,H x=some u/\wt u)(n:zV F (sub (λx=>¬F.O0 x) H) vs as):
  M F (as.map some++List.replicate (N.length-as.length) none) (L2.start N vs) H:=by
 have B:=n.length;have g:∀{i:Nat} {a:A},(as.map some++List.replicate (N.length-as.length) none)[i]?=some (some a)->as[i]?=some a:=λ{i a} h=>by
  rcases z97 i as.length with z|z
  ·rw[z22 (by rw[zX7];exact z),zZ1,zZ6]at h;obtain⟨b,l,k⟩:=h;cases k;exact l
  ·rw[z38 (by rw[zX7];exact z),z91]at h;split at h<;>cases h
 have at':∀{vs:List V} {as:List A} {i:Nat} {a:A},zV F (sub (λx=>¬F.O0 x) H) vs as->as[i]?=some a->∃v,vs[i]?=some v/\fG F (sub (λx=>¬F.O0 x) H) v a:=by
  intro vs as i a h
  induction h generalizing i with
  |nil=>intro e;simp at e
  |cons h r y=>
   intro e;cases i with
   |zero=>simp at e;subst e;exact⟨_,rfl,h⟩
   |succ i=>obtain⟨v,l,k⟩:=y (by simpa using e);exact⟨v,by simpa using l,k⟩
 have C:∀{i:Nat} {v:V},vs[i]?=some v->(L2.start N vs)[i]?=some (some v):=λ{i v} h=>by
  have hi:i<vs.length:=(zX9.mp h).1;unfold L2.start;rw[z22 (by rw[zX7];exact hi),zZ1,h];rfl
 have no:∀(i:Nat) a,(as.map some++List.replicate (N.length-as.length) none)[i]?=some (some a)->(∃d,a=.dat d)\/a=.tape:=λi a z=>by
  obtain⟨v,_,h⟩:=at' n (g z);cases a with
  |dat d=>exact .inl ⟨d,rfl⟩
  |tape=>exact .inr rfl
  |_=>exact h.elim
 have E:zw (sub (λx=>¬F.O0 x) H) (Gz F (as.map some++List.replicate (N.length-as.length) none) (L2.start N vs) H):=zm λa o h e=>⟨λz=>z.elim h λm=>by
  obtain⟨i,b,s,e1,_,f⟩:=m;rcases no i b e1 with⟨d,rfl⟩|rfl
  ·exact f.elim
  ·exact f.elim,e⟩
 refine⟨by unfold L2.start;simp[B],λi a s e1 p=>?_,λi j a b s t x e1 _ _ _ f=>?_,λi r q z=>(by rcases no i _ z with⟨d,w⟩|w<;>cases w),t,λx o' h _=>by rw[<-e];exact h,o⟩
 ·obtain⟨v,l,k⟩:=at' n (g e1);rw[C l]at p;cases p;rcases no i a e1 with⟨d,rfl⟩|rfl
  ·exact⟨v,rfl,AV.same E k⟩
  ·obtain⟨t',b,c,D,rfl⟩:=k;exact⟨t',b,c,D,rfl⟩
 ·rcases no i a e1 with⟨d,rfl⟩|rfl
  ·exact f.elim
  ·exact f.elim
theorem fnA {x qual:Str}{st:Stmt}{f:Addr}{fd:FuncData}{N ps:List Str}{k:Nat}{φ:List A->(A->Prop)->Prop}(G:Fun K x qual st f fd)(S:zI N ps (zd st))(hlen:∀as Q,φ as Q->as.length=ps.length)
  (c:∀(cdv:Value) (d:Around) (outer:List Env) (s:Shared) (H:Hp) (E:XK) (as:List A) (Q:A->Prop),zG k (d.deeper (envOfC qual (zd st) s.heap.objs.size f cdv))->φ as Q->
   SvS (xp CX0 P w K mg base N qual (zd st) f cdv d outer s H E).nox (as.map some++List.replicate (N.length-as.length) none) (zr st) {nx:=λ_=>Q (.dat .none),rt:=Q}):yn P w K mg base CX0 (k+1) f fd ps (spA φ):=by
 refine G.ok S (λvs H Q E h=>?_) (λcdv d outer s H vs l E hr h=>?_)
 ·obtain⟨F,as,j,_,_,_,g,b,_⟩:=h;rw[g.length,hlen as _ b]
 ·obtain⟨F,as,j,e,t,o,g,b,i⟩:=h;refine c cdv d outer s H E as j hr b F _ H _ (M.start e t o g) ⟨λα σ H' m q=>?_,λa v H' r q=>i a v H' q r,λ_ _ _ _ z=>z.elim,λ_ _ _ _ z=>z.elim⟩;exact i _ _ _ q ⟨m.tp,m.keep,.non⟩
end
section
variable {X:Cx}{pins:List (Addr×Obj)}{σ:St}{H:Hp}{s:Shared}{h':Heap}
theorem Inv.turnL {t':Nat}{ch:List Addr}(I:Inv X pins σ H s)(k:∀b o,b∉ch->s.heap.get? b=some o->h'.get? b=some o)(hf:∀b∈ch,xi X pins H b):Inv X pins σ H {s with heap:=h',toks:=t'}:=by
 have d:∀b u,H b=some u->b∉ch:=λb u e z=>by rw[(hf b z).1]at e;cases e
 refine I.step (g':=s.gens) (d':=s.drawn) (ch:=ch) (λb hb=>?_) (λb o _ _ a e _=>k b o a e) (λb o _ _ a e _=>⟨o.slots,k b o a e⟩) (λ_ _ _ _ n=>n)
  (λb o a e=>⟨o,k b o a e⟩) (λ_ _ e=>e) (λ_ _ _ e=>e) (λb ps e=>⟨#[],by rw[e];simp⟩) (λm hm=>?_) (λb u e=>?_) I.bare
 ·obtain⟨_,f1,_,i,f4,j⟩:=hf b hb;exact⟨i,f1,f4,j⟩
 ·obtain⟨o,h,f,g,r⟩:=hm;exact⟨o,h,f,k _ o (λz=>(hf _ z).2.1 rfl) g,r⟩
 ·refine(I.hok b u e).stay (λc v a q=>k c v ?_ q) (λ_ q=>q) λ_ _ q=>q;rcases a with z|z
  ·rw[z];exact d b u e
  ·exact d c _ z
theorem Inv.turnLay {t':Nat}{ch:List Addr}{T:Addr}{o:HO}(I:Inv X pins σ H s)(k:∀b o,b∉ch->s.heap.get? b=some o->h'.get? b=some o)(hf:∀b∈ch,xi X pins H b)(hT:s.heap.objs.size<=T)(new:zA X.prog X.w (upd H T o) h' T o):
  Inv X pins σ (upd H T o) {s with heap:=h',toks:=t'}:=by
 have d:∀b u,H b=some u->b∉ch:=λb u e z=>by rw[(hf b z).1]at e;cases e
 have hn:H T=none:=I.hok.fresh hT;have lt:∀{b:Addr} {u:Obj},s.heap.get? b=some u->b≠T:=λe=>zZ7 (zX8 (zY5 e) hT);refine I.step (g':=s.gens) (d':=s.drawn) (ch:=ch) (λb hb=>?_) (λb o _ _ a e _=>k b o a e) (λb o _ _ a e _=>⟨o.slots,k b o a e⟩) (λb u _ e n=>by rw[zc (lt e)];exact n)
  (λb o a e=>⟨o,k b o a e⟩) (λb xs e=>by rw[zc (zh e hn)];exact e) (λb u xs e=>by rw[zc (zh e hn)];exact e) (λb ps e=>⟨#[],by rw[zc (zh e hn),e];simp⟩) (λm hm=>?_) (λb u e=>?_) I.bare
 ·obtain⟨_,f1,_,i,f4,j⟩:=hf b hb;exact⟨i,f1,f4,j⟩
 ·obtain⟨o,h,f,g,r⟩:=hm;exact⟨o,h,f,k _ o (λz=>(hf _ z).2.1 rfl) g,r⟩
 ·by_cases hb:b=T
  ·subst hb;rw[zf]at e;cases e;exact new
  ·rw[zc hb]at e;refine(I.hok b u e).stay (λc v a q=>k c v ?_ q) (λc q=>by rw[zc (zh q hn)];exact q) λc xs q=>by rw[zc (zh q hn)];exact q
   rcases a with z|z
   ·rw[z];exact d b u e
   ·exact d c _ z
end
theorem ux {a b:Nat}(h:a<b):(a:Addr)≠b:=zZ7 h
theorem bI {a b:Nat}(h:b<a):(a:Addr)≠b:=z71 h
theorem gJ (n l1 l2:Nat)(d:l1<n)(c:l2<n):ZipApart (n+4) (n+2) (n+3) n (n+1) l1 l2 where
 TIz:=ux (a:=n+2) (b:=n+4) (by lia)
 TOz:=ux (a:=n+3) (b:=n+4) (by lia)
 i1z:=ux (a:=n) (b:=n+4) (by lia)
 i2z:=ux (a:=n+1) (b:=n+4) (by lia)
 TITO:=ux (a:=n+2) (b:=n+3) (by lia)
 TIi1:=bI (a:=n+2) (b:=n) (by lia)
 TIi2:=bI (a:=n+2) (b:=n+1) (by lia)
 TOi1:=bI (a:=n+3) (b:=n) (by lia)
 TOi2:=bI (a:=n+3) (b:=n+1) (by lia)
 i12:=ux (a:=n) (b:=n+1) (z52 _)
 l1z:=ux (a:=l1) (b:=n+4) (zX8 d (zZ3 _ _))
 l1TO:=ux (a:=l1) (b:=n+3) (zX8 d (zZ3 _ _))
 l1i1:=ux (a:=l1) (b:=n) (d)
 l1i2:=ux (a:=l1) (b:=n+1) (zX8 d (zZ3 _ _))
 l2z:=ux (a:=l2) (b:=n+4) (zX8 c (zZ3 _ _))
 l2TO:=ux (a:=l2) (b:=n+3) (zX8 c (zZ3 _ _))
 l2i1:=ux (a:=l2) (b:=n) (c)
 l2i2:=ux (a:=l2) (b:=n+1) (zX8 c (zZ3 _ _))
def Itz (K:PySem.W.Frag)(l1 l2:Addr):It:=
 ⟨λi H=>∃xs ys x y,SqL K H l1 xs/\SqL K H l2 ys/\xs[i]?=some x/\ys[i]?=some y,
  λi H v H'=>∃T x y,v=.ref T/\H T=none/\H'=upd H T (.tup [x,y])/\(∀xs,SqL K H l1 xs->xs[i]?=some x)/\∀ys,SqL K H l2 ys->ys[i]?=some y,
  λi H=>∃xs ys,SqL K H l1 xs/\SqL K H l2 ys/\(xs.length<=i\/ys.length<=i)⟩
def Ite (K:PySem.W.Frag)(l:Addr):It:=
 ⟨λi H=>∃xs x,SqL K H l xs/\xs[i]?=some x,
  λi H v H'=>∃T x,v=.ref T/\H T=none/\H'=upd H T (.tup [.int i,x])/\∀xs,SqL K H l xs->xs[i]?=some x,
  λi H=>∃xs,SqL K H l xs/\xs.length<=i⟩
theorem za4 {P:Program}{w:World}{K:PySem.W.Frag}{elts:List Expr}{kk:Nat}{pos:Pos}{z TI TO i1 i2 l1 l2:Addr}(D:ZipApart z TI TO i1 i2 l1 l2):
  Turn P w K (.Tuple elts kk pos) (Itz K l1 l2) [z,TI,TO,i1,i2] z (λi h=>IsZip h z TI TO .none/\IsPair h TI (.ref i1) (.ref i2)/\(∃a b,IsPair h TO a b)/\h.IsListIter i1 l1 i/\h.IsListIter i2 l2 i) where
 mem:=by simp
 obj:=λi h st b hb=>by
  obtain⟨d,j,⟨a,c,l⟩,⟨V,e1,_,d1⟩,⟨R,B,_,d2⟩⟩:=st;simp only[zY4,zZ8,z32]at hb;rcases hb with rfl|rfl|rfl|rfl|rfl
  ·exact⟨_,d,λv z=>by cases(show Data.fields _=Data.cell v from z)⟩
  ·exact⟨_,j,λv z=>by cases(show Data.seq _ _=Data.cell v from z)⟩
  ·exact⟨_,l,λv z=>by cases(show Data.seq _ _=Data.cell v from z)⟩
  ·exact⟨V,e1,λv z=>by rw[d1]at z;cases z⟩
  ·exact⟨R,B,λv z=>by rw[d2]at z;cases z⟩
 keep:=λi h h' st k=>by
  obtain⟨d,j,⟨a,c,l⟩,q,p⟩:=st;exact⟨k z (by simp) _ d,k TI (by simp) _ j,⟨a,c,k TO (by simp) _ l⟩,q.at λo e=>k i1 (by simp) o e,p.at λo e=>k i2 (by simp) o e⟩
 item:=by
  intro X N hw hK S i pins s σ H E I hf st hg;subst N hw hK;obtain⟨xs,ys,x,y,f,g,U,hy⟩:=hg;obtain⟨t,n,p1,O⟩:=I.list f;obtain⟨F,m,p2,M⟩:=I.list g;obtain⟨u,hu,ru⟩:=n.get U;obtain⟨v,hv,Z⟩:=m.get hy;obtain⟨d,j,⟨a,c,l⟩,q,p⟩:=st;refine wpAny_pyNext_zip_item D d j l q p p1.isList p2.isList (x:=u) (y:=v) (by simpa using hu) (by simpa using hv) λh' a1 a2 a3 a4 a5 a6 hk=>⟨_,rfl,?_⟩;refine wpAny_letOwnedTupleGo_zip (s:={s with heap:=h'}) a1 λC Y r=>?_;have L:s.heap.objs.size≠z:=z71 (zY5 d);have G:∀b o,b∉[z,TI,TO,i1,i2]->s.heap.get? b=some o->C.get? b=some o:=λb o hb e=>by
   simp only[zY4,zZ8,z32,not_or]at hb;exact r.extBut _ _ hb.1 (hk b o hb.1 hb.2.2.1 hb.2.2.2.1 hb.2.2.2.2 e)
  have gT:C.get? s.heap.objs.size=some {cls:=.type "tuple",data:=.seq #[u,v]}:=r.extBut _ _ L a5;have J:=I.turnLay (t':=s.toks) (T:=s.heap.objs.size) (o:=.tup [x,y]) G hf (zY1 _) ⟨by show 2<=sizeLine;decide,[u,v],.cons ru (.cons Z .nil),_,gT,rfl,0,rfl⟩;refine⟨.ref s.heap.objs.size,_,J,rfl,⟨_,x,y,rfl,I.hok.fresh (zY1 _),rfl,λzs hz=>by rw[I.list_inj hz f];exact U,λzs hz=>by rw[I.list_inj hz g];exact hy⟩,⟨Y,r.extBut _ _ D.TIz (hk _ _ D.TIz D.TITO D.TIi1 D.TIi2 j),⟨u,v,r.extBut _ _ D.TOz a2⟩,a3.extBut r.extBut D.i1z,a4.extBut r.extBut D.i2z⟩,λb hb=>?_⟩;rw[zc]
  ·exact(hf b hb).1
  ·obtain⟨o,e,_⟩:=(show ∃o,s.heap.get? b=some o/\True from by
    simp only[zY4,zZ8,z32]at hb;obtain⟨V,e1,_⟩:=q;obtain⟨R,B,_⟩:=p;rcases hb with rfl|rfl|rfl|rfl|rfl
    ·exact⟨_,d,trivial⟩
    ·exact⟨_,j,trivial⟩
    ·exact⟨_,l,trivial⟩
    ·exact⟨_,e1,trivial⟩
    ·exact⟨_,B,trivial⟩)
   exact zZ7 (zY5 e)
 done:=by
  intro X N hw hK S i pins s σ H E I hf st hg;subst N hw hK;obtain⟨xs,ys,f,g,hl⟩:=hg;obtain⟨t,n,p1,O⟩:=I.list f;obtain⟨F,m,p2,M⟩:=I.list g;obtain⟨d,j,⟨a,c,l⟩,q,p⟩:=st;have e1:=n.length;have B:=m.length;refine wpAny_pyNext_zip_end (I.ok.hd S) D d j l q p p1.isList p2.isList (hl.imp (λz=>by simp;exact zY8 (zZ5 e1.symm) z) λz=>by simp;exact zY8 (zZ5 B.symm) z) λh' hk=>⟨rfl,?_⟩;exact I.turnL (t':=s.toks) (ch:=[z,TI,TO,i1,i2]) (λb o hb e=>by
   simp only[zY4,zZ8,z32,not_or]at hb;exact hk b o hb.1 hb.2.2.1 hb.2.2.2.1 hb.2.2.2.2 e) hf
 self:=λA i s Q E st h=>wpAny_pyIter_zip st.1 h
theorem fe {P:Program}{w:World}{K:PySem.W.Frag}{elts:List Expr}{F:Nat}{pos:Pos}{e it l:Addr}(hne:e≠it):
  Turn P w K (.Tuple elts F pos) (Ite K l) [e,it] e (λi h=>(∃old,IsEnum h e it i old)/\h.IsListIter it l i) where
 mem:=by simp
 obj:=λi h st b hb=>by
  obtain⟨⟨old,a⟩,⟨C,e1,_,N⟩⟩:=st;simp only[zY4,zZ8,z32]at hb;rcases hb with rfl|rfl
  ·exact⟨_,a,λv z=>by cases(show Data.fields _=Data.cell v from z)⟩
  ·exact⟨C,e1,λv z=>by rw[N]at z;cases z⟩
 keep:=λi h h' st k=>by
  obtain⟨⟨old,a⟩,f⟩:=st;exact⟨⟨old,k e (by simp) _ a⟩,f.at λo q=>k it (by simp) o q⟩
 item:=by
  intro X p hw hK y i pins s σ H E I hf st hg;subst p hw hK;obtain⟨xs,x,c,B⟩:=hg;obtain⟨g,d,p1,r⟩:=I.list c;obtain⟨u,O,S⟩:=d.get B;obtain⟨⟨old,a⟩,f⟩:=st;refine wpAny_pyNext_enum_item a f p1.isList (x:=u) (by simpa using O) hne λh' a1 R G U hk=>⟨_,rfl,?_⟩;refine wpAny_letOwnedTupleGo_enum (s:={s with heap:=h',toks:=s.toks+1}) a1 λj D n=>?_;have t:s.heap.objs.size≠e:=z71 (zY5 a);have m:∀b o,b∉[e,it]->s.heap.get? b=some o->j.get? b=some o:=λb o hb q=>by
   simp only[zY4,zZ8,z32,not_or]at hb;exact n.extBut _ _ hb.1 (hk b o hb.1 hb.2 q)
  have L:j.get? s.heap.objs.size=some {cls:=.type "tuple",data:=.seq #[.int i s.toks,u]}:=n.extBut _ _ t G;have J:=I.turnLay (t':=s.toks+1) (T:=s.heap.objs.size) (o:=.tup [.int i,x]) m hf (zY1 _) ⟨by show 2<=sizeLine;decide,[.int i s.toks,u],.cons ⟨_,rfl⟩ (.cons S .nil),_,L,rfl,0,rfl⟩;refine⟨.ref s.heap.objs.size,_,J,rfl,⟨_,x,rfl,I.hok.fresh (zY1 _),rfl,λzs hz=>by rw[I.list_inj hz c];exact B⟩,⟨⟨u,by simpa using D⟩,R.extBut n.extBut hne.symm⟩,λb hb=>?_⟩;rw[zc]
  ·exact(hf b hb).1
  ·obtain⟨o,q,_⟩:=(show ∃o,s.heap.get? b=some o/\True from by
    simp only[zY4,zZ8,z32]at hb;obtain⟨C,e1,_⟩:=f;rcases hb with rfl|rfl
    ·exact⟨_,a,trivial⟩
    ·exact⟨_,e1,trivial⟩)
   exact zZ7 (zY5 q)
 done:=by
  intro X p hw hK y i pins s σ H E I hf st hg;subst p hw hK;obtain⟨xs,c,M⟩:=hg;obtain⟨g,d,p1,r⟩:=I.list c;obtain⟨⟨old,a⟩,f⟩:=st;have e1:=d.length;refine wpAny_pyNext_enum_end (I.ok.hd y) a f p1.isList (by simp;exact zY8 (zZ5 e1.symm) M) λh' hk=>⟨rfl,?_⟩;exact I.turnL (t':=s.toks) (ch:=[e,it]) (λb o hb q=>by
   simp only[zY4,zZ8,z32,not_or]at hb;exact hk b o hb.2 q) hf
 self:=λA i s Q E st h=>by
  obtain⟨⟨old,a⟩,f⟩:=st;exact wpAny_pyIter_enum a h
section
variable {X:Cx}{α:Ev}{elts:List Expr}{kk:Nat}{tp p pos:Pos}{a b:Expr}
def zV8 (K:PySem.W.Frag)(c:TA):TI:=λσ H R=>c σ H λvs H1=>∃l1 l2,vs=[.ref l1,.ref l2]/\(∃xs,SqL K H1 l1 xs)/\(∃ys,SqL K H1 l2 ys)/\R (Itz K l1 l2) H1
theorem zB7 {l:TA}(hg:Gl X "zip")(hm:X.mg "zip"=none)(ha:PA X [a,b] l)(L:starEach [a,b] X.env=[(false,eval a X.env),(false,eval b X.env)]:=by rfl)(f:starEach [b] X.env=[(false,eval b X.env)]:=by rfl):
  PI X (.Tuple elts kk tp) (.Call (.Name "zip" p) [a,b] [] pos) (zV8 X.K l):=by
 intro pins s σ H R I h;refine Call_ (yT I hg hm boot_zip (z30 (thn (ha pos pins s σ H _ I h) λus s1 ⟨vs,H1,c,x,A⟩=>?_) (by rw[L,f]) (by rw[f];rfl)));obtain⟨l1,l2,e,⟨xs,i⟩,⟨ys,j⟩,q⟩:=A;subst e;obtain⟨u,v,rfl,J,y⟩:=Vals.two x;cases(show u=Value.ref l1 from J);cases(show v=Value.ref l2 from y);obtain⟨m,B,p1,C⟩:=c.list i;obtain⟨t,E,p2,M⟩:=c.list j;refine call_zip_2 p1.isList p2.isList λh' r w z3 G F N hk=>?_;refine wpAny_pyIter_zip (s:={s1 with heap:=h'}) r ?_;have k:l1<s1.heap.objs.size:=by obtain⟨o,e,_⟩:=p1.isList;exact zY5 e
 have g:l2<s1.heap.objs.size:=by obtain⟨o,e,_⟩:=p2.isList;exact zY5 e
 have fr:∀n,H1 (s1.heap.objs.size+n)=none:=λn=>c.hok.fresh (zZ3 _ _);have D:ZipApart (s1.heap.objs.size+4) (s1.heap.objs.size+2) (s1.heap.objs.size+3) s1.heap.objs.size (s1.heap.objs.size+1) l1 l2:=gJ _ _ _ k g;refine⟨_,_,_,_,H1,rfl,c.kept (t':=s1.toks) λb o e=>hk b o e,za4 D,⟨r,w,⟨_,_,z3⟩,G,F⟩,λb hb=>?_,q⟩;simp only[zY4,zZ8,z32]at hb;have d:s1.heap.objs.size<=b:=by
  have key:∀n b:Nat,n=s1.heap.objs.size->(b=n+4\/b=n+2\/b=n+3\/b=n\/b=n+1)->n<=b:=λn b _ h=>by lia
  exact key _ _ rfl (by rcases hb with z|z|z|z|z<;>simp[z])
 exact c.fpOk d (c.hok.fresh d)
def zM8 (K:PySem.W.Frag)(c:TA):TI:=λσ H R=>c σ H λvs H1=>∃l,vs=[.ref l]/\(∃xs,SqL K H1 l xs)/\R (Ite K l) H1
theorem zn0 {i:TA}(hg:Gl X "enumerate")(hm:X.mg "enumerate"=none)(ha:PA X [a] i)(x:starEach [a] X.env=[(false,eval a X.env)]:=by rfl):
  PI X (.Tuple elts kk tp) (.Call (.Name "enumerate" p) [a] [] pos) (zM8 X.K i):=by
 intro pins s σ H R I h;refine Call_ (yT I hg hm boot_enumerate (z30 (thn (ha pos pins s σ H _ I h) λus s1 f=>?_) x rfl));obtain⟨vs,H1,d,l,m⟩:=f;obtain⟨l1,e,⟨xs,g⟩,q⟩:=m;subst e;obtain⟨u,rfl,w⟩:=Vals.one l;cases(show u=Value.ref l1 from w);obtain⟨j,r,p1,t⟩:=d.list g;refine call_enumerate_list p1.isList λh' k v y hk=>?_;refine wpAny_pyIter_enum (s:={s1 with heap:=h'}) k ?_;refine⟨_,_,_,_,H1,rfl,d.kept (t':=s1.toks) λb o e=>hk b o e,fe (bI (a:=s1.heap.objs.size+1) (b:=s1.heap.objs.size) (z52 _)),⟨⟨_,k⟩,v⟩,λb hb=>?_,q⟩;simp only[zY4,zZ8,z32]at hb;have c:s1.heap.objs.size<=b:=by
  have key:∀n b:Nat,n=s1.heap.objs.size->(b=n+1\/b=n)->n<=b:=λn b _ h=>by lia
  exact key _ _ rfl hb
 exact d.fpOk c (d.hok.fresh c)
def aa (ds c:List PyData):List PyData:=List.zipWith (λd e=>.tuple [d,e]) ds c
theorem zJ6 {Q:List PyData->Prop}(hg:Gl X "zip")(hm:X.mg "zip"=none)(h:EvD X α a λx=>EvD X α b λy=>∃ds j,x=.list ds/\y=.list j/\Q (aa ds j))
  (M:starEach [a,b] X.env=[(false,eval a X.env),(false,eval b X.env)]:=by rfl) (f:starEach [b] X.env=[(false,eval b X.env)]:=by rfl) (r:starEach [a,b] X.env=(false,eval a X.env)::starEach [b] X.env:=by rfl):
  EvI X α (.Tuple elts kk tp) (.Call (.Name "zip" p) [a,b] [] pos) Q:=λF σ H R m k=>by
 refine⟨_,zB7 hg hm (zp zg (zp zg zF f) r) M f,?_⟩;refine h F σ H _ m λx S H1 J t1 k1 G=>?_;have m1:=m.kz k1 t1;refine J F σ H1 _ m1 λy N w E t2 k2 L=>?_;obtain⟨ds,j,rfl,rfl,q⟩:=E;obtain⟨l1,xs,rfl,g1,g2⟩:=(G.same (k2.gz m1.tp)).lst_inv;obtain⟨l2,ys,rfl,g3,z⟩:=L.lst_inv;refine⟨l1,l2,rfl,⟨xs,SqL.of (zb g1).2⟩,⟨ys,SqL.of (zb g3).2⟩,k _ _ w q t2 (k1.trans k2) λi H3 p s=>⟨λd hd=>?_,λA=>?_⟩⟩
 ·have s1:=SqL.of (K:=X.K) (zb (s _ _ g1)).2;have s2:=SqL.of (K:=X.K) (zb (s _ _ g3)).2;unfold aa at hd;rw[List.getElem?_zipWith]at hd;cases e1:ds[i]? with
  |none=>rw[e1]at hd;cases hd
  |some O=>
   cases e2:j[i]? with
   |none=>rw[e1,e2]at hd;cases hd
   |some P=>
    rw[e1,e2]at hd;cases hd;obtain⟨D,c,n⟩:=g2.get e1;obtain⟨B,g,t⟩:=z.get e2;refine⟨⟨xs,ys,D,B,s1,s2,c,g⟩,λv U y=>?_⟩;obtain⟨T,x,y,rfl,hT,rfl,l,hy⟩:=y;have l:=l _ s1;have hy:=hy _ s2;rw[c]at l;cases l;rw[g]at hy;cases hy;refine⟨zW hT,λfr=>?_⟩;have C:zw (Gz F α σ w) (sub p (upd H3 T (.tup [D,B]))):=λa o e=>by
     obtain⟨I,u⟩:=zb (s a o e);exact zu I (by rw[zc (zh u hT)];exact u)
    exact .tup (zu (fr T _ zf hT) zf) (.cons (n.same C) (.cons (t.same C) .nil))
 ·refine⟨xs,ys,SqL.of (zb (s _ _ g1)).2,SqL.of (zb (s _ _ g3)).2,?_⟩;unfold aa at A;rw[List.length_zipWith,<-g2.length,<-z.length]at A
  lia
def vM (n:Nat):List PyData->List PyData
 |[]=>[]
 |d::ds=>.tuple [.int n,d]::vM (n+1) ds
theorem xv :∀{ds:List PyData}{n i:Nat}{d:PyData},(vM n ds)[i]?=some d->∃e,ds[i]?=some e/\d=.tuple [.int ((n+i:Nat):Int),e]
 |[],n,i,d,h=>by simp[vM]at h
 |e::ds,n,0,d,h=>by simp[vM]at h;exact⟨e,rfl,by simp[<-h]⟩
 |e::ds,n,i+1,d,h=>by
  simp only[vM,yf3]at h;obtain⟨f,g,c⟩:=xv h;exact⟨f,by simpa using g,by rw[c,Nat.add_assoc,Nat.add_comm 1 i]⟩
theorem xX :∀(ds:List PyData) (n:Nat),(vM n ds).length=ds.length
 |[],_=>rfl
 |_::ds,n=>by simp[vM,xX ds (n+1)]
theorem uj {Q:List PyData->Prop}(hg:Gl X "enumerate")(hm:X.mg "enumerate"=none)(h:EvD X α a λx=>∃ds,x=.list ds/\Q (vM 0 ds))(r:starEach [a] X.env=[(false,eval a X.env)]:=by rfl):
  EvI X α (.Tuple elts kk tp) (.Call (.Name "enumerate" p) [a] [] pos) Q:=λF σ H R m k=>by
 refine⟨_,zn0 hg hm (zp zg zF r) r,?_⟩;refine h F σ H _ m λx A H1 w t1 k1 t=>?_;obtain⟨ds,rfl,q⟩:=w;obtain⟨l1,xs,rfl,g1,g2⟩:=t.lst_inv;refine⟨l1,rfl,⟨xs,SqL.of (zb g1).2⟩,k _ _ H1 q t1 k1 λi H3 p s=>⟨λd hd=>?_,λl=>?_⟩⟩
 ·have s1:=SqL.of (K:=X.K) (zb (s _ _ g1)).2;obtain⟨e,he,rfl⟩:=xv hd;obtain⟨n,c,g⟩:=g2.get he;refine⟨⟨xs,n,s1,c⟩,λv B y=>?_⟩;obtain⟨T,x,rfl,hT,rfl,f⟩:=y;have f:=f _ s1;rw[c]at f;cases f;refine⟨zW hT,λfr=>?_⟩;have z:zw (Gz F α σ H1) (sub p (upd H3 T (.tup [.int i,n]))):=λa o e=>by
   obtain⟨u,j⟩:=zb (s a o e);exact zu u (by rw[zc (zh j hT)];exact j)
  refine .tup (zu (fr T _ zf hT) zf) (.cons ?_ (.cons (g.same z) .nil));rw[yh5];exact .int _
 ·refine⟨xs,SqL.of (zb (s _ _ g1)).2,?_⟩;rw[xX,<-g2.length]at l;exact l
end
structure Cal (P:Program)(w:World)(K:PySem.W.Frag)(mg:Str->Option Value)(base:Heap)(x:Str)(k:Nat)(φ:List A->(A->Prop)->Prop):Prop where
 ex:∃f fd ps,mg x=some (.ref f)/\PySem.W.keepIn K (.ref f)=true/\Binds K fd ps []/\yn P w K mg base CX0 k f fd ps (spA φ)
section
variable {X:Cx}{α:Ev}{e a b:Expr}{es:List Expr}{pos p:Pos}{Q:PyData->Prop}{k:Nat}{φ:List A->(A->Prop)->Prop}{x:Str}
theorem pN (C:Cal X.prog X.w X.K X.mg X.base x k φ)(hr:zG k X.A)(hg:Gl X x)(h:EvA X α (e::es) λas=>φ as λa=>Q a.d)
  (c:(x == ("__debug__":Str))=false:=by decide) (he:starEach (e::es) X.env=(false,eval e X.env)::starEach es X.env:=by rfl) (hpl:(backTo pos (starEach es X.env)).any (·.1)=false:=by rfl):EvD X α (.Call (.Name x p) (e::es) [] pos) Q:=by
 obtain⟨f,fd,ps,i,g,l,j⟩:=C.ex;exact zg1 j hr hg i g l h c he hpl
theorem vW {Q:List PyData->Prop}(C:Cal X.prog X.w X.K X.mg X.base x k φ)(hr:zG k X.A)(hg:Gl X x)(h:EvA X α (e::es) λas=>φ as λa=>∃ds,a=.own ds/\Q ds)
  (c:(x == ("__debug__":Str))=false:=by decide) (he:starEach (e::es) X.env=(false,eval e X.env)::starEach es X.env:=by rfl) (hpl:(backTo pos (starEach es X.env)).any (·.1)=false:=by rfl):EvL X α (.Call (.Name x p) (e::es) [] pos) Q:=by
 obtain⟨f,fd,ps,g,d,j,i⟩:=C.ex;exact zk3 i hr hg g d j h c he hpl
end
section
variable {P:Program}{w:World}{K:PySem.W.Frag}{mg:Str->Option Value}{base:Heap}
theorem zW2 {x qual:Str}{st:Stmt}{f:Addr}{fd:FuncData}{N ps:List Str}{k:Nat}{φ:List A->(A->Prop)->Prop}(G:Fun K x qual st f fd)(hm:mg x=some (.ref f))(hb:Binds K fd ps [])(S:zI N ps (zd st))(hlen:∀as Q,φ as Q->as.length=ps.length)
  (a:∀(cdv:Value) (b:Around) (outer:List Env) (s:Shared) (H:Hp) (E:XK) (as:List A) (Q:A->Prop),zG k (b.deeper (envOfC qual (zd st) s.heap.objs.size f cdv))->φ as Q->
   SvS (xp CX0 P w K mg base N qual (zd st) f cdv b outer s H E).nox (as.map some++List.replicate (N.length-as.length) none) (zr st) {nx:=λ_=>Q (.dat .none),rt:=Q}):Cal P w K mg base x (k+1) φ:=
 ⟨f,fd,ps,hm,G.kp,hb,fnA G S hlen a⟩
def wG :List A->(A->Prop)->Prop:=λas Q=>∃n:Int,as=[.tape,.dat (.int n)]/\0<n/\n<big/\∀v,0<=v->v<n->Q (.dat (.int v))
theorem dS {f:Addr}{fd:FuncData}{x:Str}(hm:mg x=some (.ref f))(hk:PySem.W.keepIn K (.ref f)=true)(hb:Binds K fd ["_law_tape_here","_law_many"] [])(G:yn P w K mg base CX0 1 f fd ["_law_tape_here","_law_many"] zf2):Cal P w K mg base x 1 wG:=by
 refine⟨f,fd,_,hm,hk,hb,G.imp λvs H Q E h=>?_⟩;obtain⟨F,as,q,rfl,t,o,i,⟨n,rfl,h0,j,hq⟩,g⟩:=h;cases i with
 |cons a1 r=>
  obtain⟨a,b,c,e,rfl⟩:=a1;obtain⟨v,rfl,av⟩:=r.one;cases av.int_inv;refine⟨a,b,c,n,rfl,(t a b c e).1,h0,j,λz H' m k TA off=>g _ _ _ (hq z m k) ⟨⟨(by
   obtain⟨_,_,_,_,e1,l,_⟩:=(t a b c e).1.ex;exact zn7 t.tab e1 l off),t.ot,λt' p c' d=>?_⟩,λy u hy n=>?_,.int z⟩⟩
  ·rw[e]at d;cases d;exact⟨TA,(t a b c e).2⟩
  ·rw[off y (n.1 _ _ _ e).1 (n.1 _ _ _ e).2];exact hy
theorem M.tape {H:Hp}{t b c:Addr}{α:Ev}{σ:St}(T:yx H t b c)(g:TabAt H)(v:α.length=σ.length)(h:∀(i:Nat) a,α[i]?=some (some a)->a=.tape/\σ[i]?=some (some (.ref t))):M ⟨H,λx=>x=t\/x=b\/x=c\/qc x,some (t,b,c)⟩ α σ H:=by
 refine⟨v,λi a s e1 d=>?_,λi j a b s u x e1 _ _ _ f=>?_,λi r q e=>?_,⟨g,λx z=>.inr (.inr (.inr z)),λt' y c' e=>?_⟩,λ_ _ e _=>e,λx l=>?_⟩
 ·obtain⟨rfl,z⟩:=h i a e1;rw[z]at d;cases d;exact⟨t,b,c,rfl,rfl⟩
 ·obtain⟨rfl,_⟩:=h i a e1;exact f.elim
 ·cases(h i _ e).1
 ·cases e;exact⟨T,.inl rfl,.inr (.inl rfl),.inr (.inr (.inl rfl))⟩
 ·obtain⟨n,bs,cs,_,e1,d,p,_⟩:=T.ex;rcases l with rfl|rfl|rfl|z
  ·exact⟨_,e1,yQ⟩
  ·exact⟨_,d,yQ⟩
  ·exact⟨_,p,yQ⟩
  ·obtain⟨o,m,k,_⟩:=pQ g z;exact⟨o,m,k⟩
theorem zU3 {st:Stmt}{f fT:Addr}{fd j:FuncData}{g:List Str}{k:Nat}{p1 p2 p3 p4 p5:Pos}{rest:List Stmt}(G:Fun K "law" "law" st f fd)(S:zI ("_law_script"::"_law_tape_here"::g) ["_law_script"] (zd st))
  (GT:yn P w K mg base CX0 1 fT j ["_law_script"] (km K)) (C:mg "_law_tape"=some (.ref fT)) (A:PySem.W.keepIn K (.ref fT)=true) (n:Binds K j ["_law_script"] [])
  (hb:zr st=.Assign [.Name "_law_tape_here" p1] (.Call (.Name "_law_tape" p2) [.Name "_law_script" p3] [] p4) p5::rest) (hgl:(zd st).names.lookup ("_law_tape":Str)=some .globalImplicit) (u:Loc (zd st) "_law_tape_here") (B:Vis (zd st) "_law_script")
  (d:∀(cdv:Value) (l:Around) (outer:List Env) (s:Shared) (H:Hp) (E:XK),zG (k+1) (l.deeper (envOfC "law" (zd st) s.heap.objs.size f cdv))->
   SvS (xp CX0 P w K mg base ("_law_script"::"_law_tape_here"::g) "law" (zd st) f cdv l outer s H E).nox (none::some .tape::List.replicate g.length none) rest {nx:=λ_=>False,rt:=λa=>a=.dat (.bool true)}):
  yn P w K mg base CX0 (k+1+1) f fd ["_law_script"] (mh K):=by
 refine G.ok S (λvs H Q E h=>?_) (λcdv l outer s H vs D E hr h=>?_)
 ·obtain⟨a,ns,rfl,_⟩:=h;rfl
 ·obtain⟨a,ns,rfl,y,hn,p,m⟩:=h;rw[hb];refine xl (λσ H1=>∃t b c,yx H1 t b c/\TabAt H1/\σ=some (.ref a)::some (.ref t)::List.replicate g.length none)
   ⟨_,xP (i:=1) S.nd rfl u (pK GT (hr.mono (Nat.le_add_left _ _)) hgl C A n .nil qL (zp (yF (i:=0) rfl B) zF)) (hf:=.inl rfl),?_⟩ ?_
  ·refine⟨.ref a,rfl,a,ns,rfl,y,hn,λt b c H' T _ _ _ q=>⟨t,b,c,T,ag p q,?_⟩⟩;show((L2.start ("_law_script"::"_law_tape_here"::g) [.ref a]).set 1 (some (.ref t)))=_;unfold L2.start;simp[List.replicate_succ]
  ·rintro σ H1 ⟨t,b,c,T,o,rfl⟩;refine d cdv l outer s H E hr ⟨H1,λx=>x=t\/x=b\/x=c\/qc x,some (t,b,c)⟩ _ H1 _ (M.tape T o (by simp) λi z e=>?_) ⟨λ_ _ _ _ z=>z.elim,λz v H' r e=>?_,λ_ _ _ _ z=>z.elim,λ_ _ _ _ z=>z.elim⟩
   ·cases i with
    |zero=>simp at e
    |succ i=>
     cases i with
     |zero=>simp at e;subst e;exact⟨rfl,rfl⟩
     |succ i=>
      simp only[yf3,z91]at e;split at e<;>cases e
   ·cases e;obtain⟨_,_,r⟩:=r;rw[AV.bl_inv r];exact m H'
end
section
variable {Y:Addr->Shared->Hp->List Addr->Cx}{pat:Pat}{ifs:List Expr}{elt:Expr}{α0:Ev}
theorem gU {ds acc:List PyData}{Q:List PyData->Prop}(P:Nat->List PyData->Prop)(h0:P 0 acc)
  (j:∀i d acc,ds[i]?=some d->P i acc->∃a,pat.bind d α0=some a/\∀C s2 f fp,fP (Y C s2 f fp) a ifs λk=>if k=true then ∀C s2 f fp,EvD (Y C s2 f fp) a elt λy=>P (i+1) (acc++[y])else P (i+1) acc)
  (hd:∀acc,P ds.length acc->Q acc):xf Y pat ifs elt α0 ds acc Q:=by
 have key:∀n i acc,n=ds.length-i->i<=ds.length->P i acc->xf Y pat ifs elt α0 (ds.drop i) acc Q:=by
  intro n
  induction n with
  |zero=>
   intro i acc hn hi p;have e:i=ds.length:=(om5 hn hi);subst e;rw[yg6];exact hd acc p
  |succ n g=>
   intro i acc hn hi p;have c:i<ds.length:=(om6 hn);rw[ya4 c];obtain⟨a,e,b⟩:=j i ds[i] acc (zY0 c) p;refine⟨a,e,λC s2 f fp F σ H R m h=>b C s2 f fp F σ H R m λk H' q=>h k H' ?_⟩;cases k with
   |true=>
    rw[if_pos rfl]at q ⊢;exact λC s2 f fp=>(q C s2 f fp).imp λy p=>g (i+1) _ (om7 hn) c p
   |false=>
    rw[if_neg (by decide)]at q ⊢;exact g (i+1) _ (om7 hn) c q
 exact key _ 0 acc rfl (zZ4 _) h0
theorem sL {ds acc:List PyData}{Q:List PyData->Prop}(p:PyData->Bool)(f:PyData->PyData)
  (g:∀d∈ds,∃a,pat.bind d α0=some a/\(∀C s2 b fp (Q:Bool->Prop),Q (p d)->fP (Y C s2 b fp) a ifs Q)/\(p d=true->∀C s2 b fp (Q:PyData->Prop),Q (f d)->EvD (Y C s2 b fp) a elt Q))
  (hd:Q (acc++(ds.filter p).map f)):xf Y pat ifs elt α0 ds acc Q:=by
 induction ds generalizing acc with
 |nil=>
  show Q acc;simpa using hd
 |cons d ds j=>
  obtain⟨a,e,i,h⟩:=g d zY9;refine⟨a,e,λC s2 b fp=>i C s2 b fp _ ?_⟩;have c:=λacc=>j (acc:=acc) λd hd=>g d (zY6 _ hd);cases hp:p d with
  |true=>
   rw[if_pos rfl];refine λC s2 b fp=>h hp C s2 b fp _ (c _ ?_);simpa[ya9,hp]using hd
  |false=>
   rw[if_neg (by decide)];refine c _ ?_;simpa[ya9,hp]using hd
end
theorem zt4 {ds:List PyData}{v:Int}(h0:0<=v)(b:v<ds.length):∃d,d∈ds/\atI ds v=some d:=by
 obtain⟨j,rfl⟩:=z92 h0;have a:j<ds.length:=(om9 b);exact⟨ds[j],z93 a,vv (zY0 a)⟩
theorem kW (st:Stmt)(env:Env):execs [st] env=exec st env:=by
 rw[PySem.execs_cons];have:(λf:Flow=>(match f with|.next=>execs [] env|f=>pure f:Sem Flow))=pure:=by
  funext f
  cases f<;>rfl
 exact(congrArg (λg=>exec st env >>= g) this).trans (bind_pure _)
section
variable {X:Cx}{α:Ev}{e a b c:Expr}{es rest:List Expr}{pos p:Pos}{Q:PyData->Prop}{E:yp}{st:Stmt}{sts sts':List Stmt}
theorem vc (P:Ev->Prop)(j:SvS X α [st] {E with nx:=P})(i:∀d,P d->SvS X d sts E):SvS X α (st::sts) E:=λF σ H D m r=>by
 refine xl (λf H'=>∃d,M F d f H'/\P d) ?_ ?_
 ·obtain⟨t,p,q⟩:=j F σ H {D with nx:=λf H'=>∃d,M F d f H'/\P d} m ⟨λd f H' g z=>⟨d,g,z⟩,r.rt,r.bk,r.ct⟩;exact⟨t,λpins s σ H D I h=>(by
   have:=p pins s σ H D I h;rw[kW]at this;exact this),q⟩
 ·rintro f H' ⟨d,g,z⟩;exact i d z F f H' D g r
theorem xm {k:Bool}{a b:List Stmt}(f:k=true->SvS X α a E)(d:k=false->SvS X α b E):SvS X α (if k=true then a else b) E:=by
 cases k with
 |true=>exact f rfl
 |false=>exact d rfl
theorem zn2 {i j:Int}:Cmp rEq (.int i) (.int j) (decide (i=j)):=λp H g k R f d h=>by
 cases f.int_inv;cases d.int_inv;refine⟨rfl,?_⟩;rw[show decide (V.int i=V.int j)=decide (i=j) by simp];exact h
theorem zr7 {i j:Int}:Cmp rNe (.int i) (.int j) (!decide (i=j)):=λp H g k R f d h=>by
 cases f.int_inv;cases d.int_inv;refine⟨rfl,?_⟩;rw[show decide (V.int i=V.int j)=decide (i=j) by simp];exact h
theorem jX {i j:Str}:Cmp rEq (.str i) (.str j) (decide (i=j)):=λp H g k R f d h=>by
 cases f.str_inv;cases d.str_inv;refine⟨rfl,?_⟩;rw[show decide (V.str i=V.str j)=decide (i=j) by simp];exact h
theorem oA {op:CmpOp}{r:R2}(n:OpR X (compareOp op) r)(hm:behindInMarks op b=false)(h:EvD X α a λx=>EvD X α b λy=>∃k,Cmp r x y k/\Q (.bool k)):EvD X α (.Compare a [op] [b] pos) Q:=λF σ H R m k=>by
 refine⟨_,oZ n zg zg hm,?_⟩;refine h F σ H _ m λx o H1 i t1 k1 j=>?_;have m1:=m.kz k1 t1;refine i F σ H1 _ m1 λy s d g t2 k2 l=>?_;obtain⟨b,f,q⟩:=g;exact f _ d o s _ (j.same (k2.gz m1.tp)) l (k _ _ d q t2 (k1.trans k2) (.bl b))
theorem zF6 {Q:Bool->Prop}(h:EvD X α a λx=>EvD X α b λy=>∃i j,x=.str i/\y=.str j/\Q (decide (i=j))):EvT X α (.Compare a [.Eq] [b] pos) Q:=
 xU ai (yt _) (h.imp λx h=>h.imp λy d=>by obtain⟨i,j,e1,f,q⟩:=d;exact⟨_,by subst e1 f;exact jX,q⟩)
theorem zp5 {p q:Bool}{Q:Bool->Prop}(ha:∀Q:Bool->Prop,Q p->EvT X α a Q)(hb:p=true->∀Q:Bool->Prop,Q q->EvW X α (.BoolOp .And (b::rest) pos) Q)(k:Q (p&&q)):EvW X α (.BoolOp .And (a::b::rest) pos) Q:=by
 refine dI (ha _ ?_);cases p with
 |true=>rw[if_pos rfl];exact hb rfl _ (by simpa using k)
 |false=>rw[if_neg (by decide)];simpa using k
theorem M.park {F:Fr}{σ:St}{H H1:Hp}{l:Addr}{o:HO}(m:M F α σ H)(k1:Kz F H H1)(t1:zD F H1)(u:H l=none)(j:H1 l=some o)(no:wt o):M ⟨F.H0,λx=>F.O0 x\/x=l,F.tp⟩ α σ H1:=by
 have m1:=m.kz k1 t1;have A:zw (Gz F α σ H) (Gz ⟨F.H0,λx=>F.O0 x\/x=l,F.tp⟩ α σ H1):=λy o z=>by
  obtain⟨t,h⟩:=zb z;refine zu ?_ (k1 _ _ h (m.tp.nt (ow0 t)));rintro((w|w)|⟨i,a,s,e1,d,f⟩)
  ·exact t (.inl w)
  ·rw[w,u]at h;cases h
  ·exact t (.inr ⟨i,a,s,e1,d,f⟩)
 refine⟨m.len,λi a s e1 d=>(m.ok i a s e1 d).stay A (λx o f e=>?_) rfl λr q _ y=>?_,m.dj,m.xd,t1.to rfl λ_ z=>.inl z,λy o z n=>m1.keep y o z n,λy z=>?_⟩
 ·obtain⟨v,B,_⟩:=m.ft e1 d f;exact⟨k1 _ _ e (m.tp.nt v),λ(w:F.O0 x\/x=l)=>w.elim v (λw=>by rw[w,u]at e;cases e),B⟩
 ·have g:=y.kz k1 t1;exact⟨g.tp,λx z=>.inl (g.o x z),g.ok,g.k⟩
 ·rcases z with z|z
  ·exact m1.oex y z
  ·exact⟨_,by rw[z];exact j,no⟩
end
structure NbT (mg:Str->Option Value):Prop where
 abs:mg "abs"=none
 list:mg "list"=none
 len:mg "len"=none
 range:mg "range"=none
 min:mg "min"=none
 max:mg "max"=none
 sorted:mg "sorted"=none
 isinstance:mg "isinstance"=none
 int:mg "int"=none
 bool:mg "bool"=none
 str:mg "str"=none
 tuple:mg "tuple"=none
 all:mg "all"=none
 any:mg "any"=none
 repr:mg "repr"=none
 zip:mg "zip"=none
 enumerate:mg "enumerate"=none
 reversed:mg "reversed"=none
 sum:mg "sum"=none
theorem ve {X:Cx}{K:PySem.W.Frag}{a:List Expr}{k:Nat}{t:TGs}{n:Nat}{pos:Pos}(hK:X.K=K)(c:X.calm=true)(h:PGs X a t)
  (hn:(assignEach a X.env).length=n:=by rfl) (b:(assignEach a X.env).findIdx? (·.1)=none:=by rfl):PG X (.Tuple a k pos) (dE K n t):=by
 subst hK;exact zB2 c h hn b
end L2
namespace SortA
open PySem PySem.W PyProof.Rows
def run {α:Type}(lt:Nat->Nat->Bool):KasT α->α
 |.ret a=>a
 |.ask i j k=>run lt (k (lt i j))
theorem run_bind {α β:Type}(lt:Nat->Nat->Bool)(f:α->KasT β):∀t:KasT α,run lt (t.bind f)=run lt (f (run lt t))
 |.ret _=>rfl
 |.ask i j k=>run_bind lt f (k (lt i j))
structure Ord (lt:Nat->Nat->Bool):Prop where
 irr:∀a,lt a a=false
 tr:∀a b c,lt b a=false->lt c b=false->lt c a=false
 asy:∀a b,lt a b=true->lt b a=false
abbrev g (p:Array Nat)(i:Nat):Nat:=p.getD i 0
def Up (lt:Nat->Nat->Bool)(p:Array Nat)(m:Nat):Prop:=∀i j,i<=j->j<m->lt (g p j) (g p i)=false
def Down (lt:Nat->Nat->Bool)(p:Array Nat)(m:Nat):Prop:=∀i j,i<=j->j<m->lt (g p i) (g p j)=false
theorem bZ {p q:Array Nat}{i j:Nat}(h:p[i]?=q[j]?):g p i=g q j:=by
 unfold g;rw[Array.getD_eq_getD_getElem?,Array.getD_eq_getD_getElem?,h]
variable {lt:Nat->Nat->Bool}
theorem Up.succ (O:Ord lt){p:Array Nat}{m:Nat}(h:Up lt p m)(hm:0<m)(e:lt (g p m) (g p (m-1))=false):Up lt p (m+1):=λi j a c=>by
 by_cases e1:j<m
 ·exact h i j a e1
 ·have d:j=m:=(z87 (z76 c) (z86 e1));subst d;by_cases b:i=j
  ·subst b;exact O.irr _
  ·exact O.tr _ _ _ (h i (j-1) (zu1 a b) (sv hm)) e
theorem Down.succ (O:Ord lt){p:Array Nat}{m:Nat}(h:Down lt p m)(hm:0<m)(e:lt (g p (m-1)) (g p m)=false):Down lt p (m+1):=λi j a c=>by
 by_cases e1:j<m
 ·exact h i j a e1
 ·have d:j=m:=(z87 (z76 c) (z86 e1));subst d;by_cases b:i=j
  ·subst b;exact O.irr _
  ·exact O.tr _ _ _ e (h i (j-1) (zu1 a b) (sv hm))
theorem zJ1 (O:Ord lt)(p:Array Nat):Up lt p 1:=λi j a b=>by
 have e1:i=0:=(zw0 b a);have c:j=0:=(zt8 b);rw[e1,c];exact O.irr _
theorem jH (O:Ord lt)(p:Array Nat):∀(f n:Nat),0<n->Up lt p n->n<=run lt (kas_asc p f n)/\run lt (kas_asc p f n)<=n+f/\Up lt p (run lt (kas_asc p f n))/\
  (run lt (kas_asc p f n)<n+f->lt (g p (run lt (kas_asc p f n))) (g p (run lt (kas_asc p f n)-1))=true)
 |0,n,_,h=>⟨zY1 _,zY1 _,h,λz=>absurd z (z33 _)⟩
 |f+1,n,hn,h=>by
  show n<=run lt ((λc=>if c=true then KasT.ret n else kas_asc p f (n+1)) (lt (p.getD n 0) (p.getD (n-1) 0)))/\_;cases e:lt (p.getD n 0) (p.getD (n-1) 0)with
  |true=>
   have i:run lt (kas_asc p (f+1) n)=n:=by
    show run lt ((λc=>if c=true then KasT.ret n else kas_asc p f (n+1)) (lt (p.getD n 0) (p.getD (n-1) 0)))=n;rw[e];rfl
   rw[i];exact⟨zY1 _,(zZ3 _ _),h,λ_=>e⟩
  |false=>
   have i:run lt (kas_asc p (f+1) n)=run lt (kas_asc p f (n+1)):=by
    show run lt ((λc=>if c=true then KasT.ret n else kas_asc p f (n+1)) (lt (p.getD n 0) (p.getD (n-1) 0)))=_;rw[e];rfl
   rw[i];obtain⟨a,b,c,d⟩:=jH O p f (n+1) (ye4 _) (h.succ O hn e);exact⟨by show n<=run lt (kas_asc p f (n+1));exact zY8 (zZ3 _ _) a,(iG b),c,λz=>d (by lia)⟩
theorem tj {p:Array Nat}{i j:Nat}(a:j<=p.size)(k:Nat):g (kas_rev p i j) k=if i<=k/\k<j then g p (i+j-1-k)else g p k:=by
 have h:=getElem?_mirror_all (xs:=p) (i:=i) a k;split
 ·rename_i c;rw[if_pos c]at h;exact bZ h
 ·rename_i c;rw[if_neg c]at h;exact bZ h
theorem xx (p:Array Nat)(i j:Nat):(kas_rev p i j).size=p.size:=mirror_size _ _ _ _
theorem yJ (p:Array Nat)(i j:Nat):(kas_rev p i j).Perm p:=mirror_perm _ _ _ _
def Eqv (lt:Nat->Nat->Bool)(a b:Nat):Prop:=lt a b=false/\lt b a=false
theorem Down.eqv (O:Ord lt){p q:Array Nat}{n:Nat}(h:Down lt p n)(e:∀k,k<n->Eqv lt (g q k) (g p k)):Down lt q n:=λi j a b=>
 O.tr _ _ _ (O.tr _ _ _ (e j b).2 (h i j a b)) (e i (z02 a b)).1
def Last (lt:Nat->Nat->Bool)(p:Array Nat)(n q:Nat):Prop:=∀a b,n<=a+(q+1)->a<n->n<=b+(q+1)->b<n->lt (g p a) (g p b)=false
theorem rev_last (O:Ord lt){p:Array Nat}{n q:Nat}(hn:n<=p.size)(hq:q<n)(L:Last lt p n q):∀k,k<n->Eqv lt (g (kas_rev p (n-(q+1)) n) k) (g p k):=λk hk=>by
 rw[tj hn];split
 ·rename_i c;exact⟨L _ _ (zy7 hk) (zx0 c.2 c.1) (zv3 c.1) hk,L _ _ (zv3 c.1) hk (zy7 hk) (zx0 c.2 c.1)⟩
 ·exact⟨O.irr _,O.irr _⟩
theorem tV (O:Ord lt):∀(f:Nat) (p:Array Nat) (n q:Nat),q<n->n+f<=p.size->Down lt p n->Last lt p n q->
  ∃i m j,run lt (kas_desc f p n q)=(i,m,j)/\n<=m/\m<=n+f/\i.size=p.size/\i.Perm p/\j<m/\Down lt i m/\Last lt i m j
 |0,p,n,q,hq,s,h,L=>⟨p,n,q,rfl,zY1 _,zY1 _,rfl,yd7 _,hq,h,L⟩
 |f+1,p,n,q,hq,s,h,L=>by
  cases e:lt (p.getD n 0) (p.getD (n-1) 0)with
  |true=>
   by_cases x:q > 0
   ·have r:run lt (kas_desc (f+1) p n q)=run lt (kas_desc f (kas_rev p (n-(q+1)) n) (n+1) 0):=by
     show run lt ((λc=>if c=true then(if q > 0 then kas_desc f (kas_rev p (n-(q+1)) n) (n+1) 0 else kas_desc f p (n+1) 0)
      else .ask (p.getD (n-1) 0) (p.getD n 0) λd=>if d=true then .ret (p,n,q)else kas_desc f p (n+1) (q+1)) (lt (p.getD n 0) (p.getD (n-1) 0)))=_
     rw[e];show run lt (if q > 0 then _ else _)=_;rw[if_pos x]
    have ev:=rev_last O ((zY8 (zZ3 _ _) s):n<=p.size) hq L;have l:=h.eqv O ev;have hn:g (kas_rev p (n-(q+1)) n) n=g p n:=by rw[tj (zY8 (zZ3 _ _) s),if_neg (zx1)]
    have o:Down lt (kas_rev p (n-(q+1)) n) (n+1):=l.succ O (z02 (zZ4 _) hq) (by
     rw[hn];exact O.tr _ _ _ (O.asy _ _ e) (ev (n-1) (sv hq)).1)
    obtain⟨i,m,j,a,b,c,v,w,A,t,u⟩:=tV O f (kas_rev p (n-(q+1)) n) (n+1) 0 (ye4 _) (by rw[xx];exact iU s) o (λa b l o z y=>by
     have e1:a=n:=(qt l o);have k:b=n:=(qt z y);rw[e1,k];exact O.irr _)
    exact⟨i,m,j,r.trans a,(zY8 (zZ3 _ _) b),(iG c),by rw[v,xx],w.trans (yJ _ _ _),A,t,u⟩
   ·have r:run lt (kas_desc (f+1) p n q)=run lt (kas_desc f p (n+1) 0):=by
     show run lt ((λc=>if c=true then(if q > 0 then kas_desc f (kas_rev p (n-(q+1)) n) (n+1) 0 else kas_desc f p (n+1) 0)
      else .ask (p.getD (n-1) 0) (p.getD n 0) λd=>if d=true then .ret (p,n,q)else kas_desc f p (n+1) (q+1)) (lt (p.getD n 0) (p.getD (n-1) 0)))=_
     rw[e];show run lt (if q > 0 then _ else _)=_;rw[if_neg x]
    obtain⟨i,m,j,a,b,c,v,w,A,t,u⟩:=tV O f p (n+1) 0 (ye4 _) (iU s) (h.succ O (z02 (zZ4 _) hq) (O.asy _ _ e)) (λa b l o z y=>by
     have e1:a=n:=(qt l o);have k:b=n:=(qt z y);rw[e1,k];exact O.irr _)
    exact⟨i,m,j,r.trans a,(zY8 (zZ3 _ _) b),(iG c),v,w,A,t,u⟩
  |false=>
   cases k:lt (p.getD (n-1) 0) (p.getD n 0)with
   |true=>
    have r:run lt (kas_desc (f+1) p n q)=(p,n,q):=by
     show run lt ((λc=>if c=true then(if q > 0 then kas_desc f (kas_rev p (n-(q+1)) n) (n+1) 0 else kas_desc f p (n+1) 0)
      else .ask (p.getD (n-1) 0) (p.getD n 0) λd=>if d=true then .ret (p,n,q)else kas_desc f p (n+1) (q+1)) (lt (p.getD n 0) (p.getD (n-1) 0)))=_
     rw[e];show run lt ((λd=>if d=true then KasT.ret (p,n,q)else kas_desc f p (n+1) (q+1)) (lt (p.getD (n-1) 0) (p.getD n 0)))=_;rw[k];rfl
    exact⟨p,n,q,r,zY1 _,(zZ3 _ _),rfl,yd7 _,hq,h,L⟩
   |false=>
    have r:run lt (kas_desc (f+1) p n q)=run lt (kas_desc f p (n+1) (q+1)):=by
     show run lt ((λc=>if c=true then(if q > 0 then kas_desc f (kas_rev p (n-(q+1)) n) (n+1) 0 else kas_desc f p (n+1) 0)
      else .ask (p.getD (n-1) 0) (p.getD n 0) λd=>if d=true then .ret (p,n,q)else kas_desc f p (n+1) (q+1)) (lt (p.getD n 0) (p.getD (n-1) 0)))=_
     rw[e];show run lt ((λd=>if d=true then KasT.ret (p,n,q)else kas_desc f p (n+1) (q+1)) (lt (p.getD (n-1) 0) (p.getD n 0)))=_;rw[k];rfl
    have E:Last lt p (n+1) (q+1):=λa b l o z y=>by
     have two:∀a,n+1<=a+(q+1+1)->a<n+1->Eqv lt (g p a) (g p (n-1)):=λa D C=>by
      by_cases B:a=n
      ·rw[B];exact⟨e,k⟩
      ·exact⟨L a (n-1) (zy2 D) (zz3 C B) (zw7) (sv hq),L (n-1) a (zw7) (sv hq) (zy2 D) (zz3 C B)⟩
     exact O.tr _ _ _ (two b z y).2 (two a l o).1
    obtain⟨i,m,j,a,b,c,v,w,A,t,u⟩:=tV O f p (n+1) (q+1) (Nat.add_lt_add_right hq _) (iU s) (h.succ O (z02 (zZ4 _) hq) k) E;exact⟨i,m,j,r.trans a,(zY8 (zZ3 _ _) b),(iG c),v,w,A,t,u⟩
theorem zI9 {p:Array Nat}{n:Nat}(hn:n<=p.size)(h:Down lt p n):Up lt (kas_rev p 0 n) n:=λi j a b=>by
 rw[tj hn,tj hn,if_pos (⟨(zZ4 _),b⟩),if_pos (⟨(zZ4 _),(z02 a b)⟩)];exact h _ _ (by lia) (zz2 b)
theorem nR (O:Ord lt){p:Array Nat}{n nrem:Nat}(h0:0<n)(hn:n<=nrem)(e:nrem<=p.size)(h:Down lt p n):
  ∃d m,run lt (kas_tail3 n nrem p)=(m,d)/\1<=m/\m<=nrem/\d.size=p.size/\d.Perm p/\Up lt d m:=by
 obtain⟨a,b,c,_⟩:=jH O (kas_rev p 0 n) (nrem-n) n h0 (zI9 (zY8 hn e) h);refine⟨kas_rev p 0 n,run lt (kas_asc (kas_rev p 0 n) (nrem-n) n),?_,by lia,(cT b hn),xx _ _ _,yJ _ _ _,c⟩;unfold kas_tail3;rw[run_bind];rfl
theorem tI (O:Ord lt){p:Array Nat}{n nrem:Nat}(h0:0<n)(hn:n+1<=nrem)(r:nrem<=p.size)(h:Down lt p (n+1)):
  ∃c m,run lt (kas_descPart n nrem p)=(m,c)/\1<=m/\m<=nrem/\c.size=p.size/\c.Perm p/\Up lt c m:=by
 obtain⟨p1,m1,u,e,a1,a2,d,q,j,s,y⟩:=tV O (nrem-(n+1)) p (n+1) 0 (ye4 _) (by lia) h (λa b w t x v=>by
  have e1:a=n:=(qt w t);have z:b=n:=(qt x v);rw[e1,z];exact O.irr _)
 unfold kas_descPart;rw[run_bind,e];dsimp only;split
 ·obtain⟨c,m,f,o,i,k,l,g⟩:=nR O (p:=kas_rev p1 (m1-(u+1)) m1) (n:=m1) (nrem:=nrem) (z02 (zZ4 _) j) (cT a2 hn) (by rw[xx];exact zY8 r (zZ5 d.symm)) (s.eqv O (rev_last O (by lia) j y));exact⟨c,m,f,o,i,by rw[k,xx,d],(l.trans (yJ _ _ _)).trans q,g⟩
 ·obtain⟨c,m,f,o,i,k,l,g⟩:=nR O (p:=p1) (n:=m1) (nrem:=nrem) (z02 (zZ4 _) j) (cT a2 hn) (zY8 r (zZ5 d.symm)) s;exact⟨c,m,f,o,i,by rw[k,d],l.trans q,g⟩
theorem cW (O:Ord lt){p:Array Nat}{nrem:Nat}(h0:0<nrem)(q:nrem<=p.size):
  ∃l m,run lt (kas_count nrem p)=(m,l)/\1<=m/\m<=nrem/\l.size=p.size/\l.Perm p/\Up lt l m:=by
 obtain⟨a,b,c,d⟩:=jH O p (nrem-1) 1 (by decide) (zJ1 O p);unfold kas_count;rw[run_bind];generalize run lt (kas_asc p (nrem-1) 1)=n at a b c d;by_cases r:n=nrem
 ·rw[if_pos (by rw[r];simp)];exact⟨p,n,rfl,a,(zZ5 r),rfl,yd7 _,c⟩
 ·rw[if_neg (by simpa using r)];have hd:=d (by lia);by_cases f:n > 1
  ·rw[if_pos f];cases e:lt (p.getD 0 0) (p.getD (n-1) 0)with
   |true=>
    refine⟨p,n,?_,a,by lia,rfl,yd7 _,c⟩;show run lt ((λc=>if c=true then KasT.ret (n,p)else kas_descPart n nrem (kas_rev p 0 n)) (lt (p.getD 0 0) (p.getD (n-1) 0)))=_;rw[e];rfl
   |false=>
    have all:∀k,k<n->Eqv lt (g p k) (g p 0):=λk hk=>⟨c 0 k (zZ4 _) hk,O.tr _ _ _ (c k (n-1) (zu8 hk) (zt7 f)) e⟩;have hD:Down lt (kas_rev p 0 n) (n+1):=by
     have t:Down lt (kas_rev p 0 n) n:=λi j h o=>by
      rw[tj (iV h0 q b),tj (iV h0 q b),if_pos (⟨(zZ4 _),(z02 h o)⟩),if_pos (⟨(zZ4 _),o⟩)];exact O.tr _ _ _ (all _ (by lia)).2 (all _ (zz2 o)).1
     refine t.succ O (z02 (zZ4 _) f) ?_;rw[tj (iV h0 q b),tj (iV h0 q b),if_pos (by lia),if_neg (zx1)];have x:lt (g p (n-1)) (g p n)=false:=O.asy _ _ hd;exact O.tr _ _ _ x (O.tr _ _ _ (all (n-1) (zt7 f)).2 (all _ (by lia)).1)
    obtain⟨l,m,s,A,w,y,z,v⟩:=tI O (p:=kas_rev p 0 n) (n:=n) (nrem:=nrem) (z02 (zZ4 _) f) (by lia) (by rw[xx];exact q) hD;refine⟨l,m,?_,A,w,by rw[y,xx],z.trans (yJ _ _ _),v⟩;rw[<-s];show run lt ((λc=>if c=true then KasT.ret (n,p)else kas_descPart n nrem (kas_rev p 0 n)) (lt (p.getD 0 0) (p.getD (n-1) 0)))=_;rw[e];rfl
  ·rw[if_neg f];have e1:n=1:=(z87 (z86 f) a);subst e1;refine tI O (by decide) (by lia) q ?_;have u:Down lt p 1:=λi j h o=>by
    have e1:i=0:=(zw0 o h);have B:j=0:=(zt8 o);rw[e1,B];exact O.irr _
   exact u.succ O (by decide) (O.asy _ _ hd)
theorem rK (O:Ord lt){p:Array Nat}{k:Nat}(U:Up lt p k):∀(f l r:Nat),r<=l+f->l<=r->r<=k->(∀i,i<l->lt (g p k) (g p i)=false)->(∀i,r<=i->i<k->lt (g p k) (g p i)=true)->
  run lt (kas_place p k f l r)<=k/\(∀i,i<run lt (kas_place p k f l r)->lt (g p k) (g p i)=false)/\(∀i,run lt (kas_place p k f l r)<=i->i<k->lt (g p k) (g p i)=true)
 |0,l,r,n,h,d,ha,hb=>by
  show l<=k/\_;exact⟨(zY8 h d),ha,λi x y=>hb i (by have:l<=i:=x;lia) y⟩
 |f+1,l,r,n,h,d,ha,hb=>by
  by_cases a:l≥r
  ·have b:run lt (kas_place p k (f+1) l r)=l:=by
    show run lt (if l≥r then _ else _)=_;rw[if_pos a];rfl
   rw[b];exact⟨(zY8 h d),ha,λi x y=>hb i (zY8 a x) y⟩
  ·cases e:lt (p.getD k 0) (p.getD ((l+r) / 2) 0)with
   |true=>
    have b:run lt (kas_place p k (f+1) l r)=run lt (kas_place p k f l ((l+r) / 2)):=by
     show run lt (if l≥r then _ else _)=_;rw[if_neg a];show run lt ((λc=>if c=true then kas_place p k f l ((l+r) / 2)else kas_place p k f ((l+r) / 2+1) r) (lt (p.getD k 0) (p.getD ((l+r) / 2) 0)))=_;rw[e];rfl
    rw[b];refine rK O U f l ((l+r) / 2) (by lia) (by lia) (by lia) ha λi x y=>?_;cases e3:lt (g p k) (g p i)with
    |true=>rfl
    |false=>
     have m:lt (g p k) (g p ((l+r) / 2))=false:=O.tr _ _ _ (U ((l+r) / 2) i x y) e3;have j:lt (g p k) (g p ((l+r) / 2))=true:=e;rw[m]at j;cases j
   |false=>
    have b:run lt (kas_place p k (f+1) l r)=run lt (kas_place p k f ((l+r) / 2+1) r):=by
     show run lt (if l≥r then _ else _)=_;rw[if_neg a];show run lt ((λc=>if c=true then kas_place p k f l ((l+r) / 2)else kas_place p k f ((l+r) / 2+1) r) (lt (p.getD k 0) (p.getD ((l+r) / 2) 0)))=_;rw[e];rfl
    rw[b];exact rK O U f ((l+r) / 2+1) r (by lia) (by lia) d (λi hi=>O.tr _ _ _ (U i ((l+r) / 2) (z76 hi) (by lia)) e) hb
theorem eJ (O:Ord lt){p:Array Nat}{k l:Nat}(hk:k<p.size)(n:l<=k)(U:Up lt p k)(ha:∀i,i<l->lt (g p k) (g p i)=false)(hb:∀i,l<=i->i<k->lt (g p k) (g p i)=true):Up lt (bubble p k (k-l)) (k+1):=by
 have e:∀i,g (bubble p k (k-l)) i=if i=l then g p k else if l<i/\i<=k then g p (i-1)else g p i:=λi=>by
  have h:=getElem?_bubble hk (k-l) (Nat.sub_le _ _) i;have o:k-(k-l)=l:=by lia
  rw[o]at h;by_cases c:i=l
  ·rw[if_pos c]at h ⊢;exact bZ h
  ·rw[if_neg c]at h ⊢;by_cases m:l<i/\i<=k
   ·rw[if_pos m]at h ⊢;exact bZ h
   ·rw[if_neg m]at h ⊢;exact bZ h
 intro i j a b;have gl:g (bubble p k (k-l)) l=g p k:=by rw[e,if_pos rfl]
 have d:∀i,l<i->i<=k->g (bubble p k (k-l)) i=g p (i-1):=λi x y=>by rw[e,if_neg (z71 x),if_pos ⟨x,y⟩]
 have f:∀i,i<l->g (bubble p k (k-l)) i=g p i:=λi x=>by rw[e,if_neg (zZ7 x),if_neg (by lia)]
 rcases Nat.lt_trichotomy i l with hi|hi|hi
 ·rw[f i hi];rcases Nat.lt_trichotomy j l with h|h|h
  ·rw[f j h];exact U _ _ (a) (zX8 h n)
  ·rw[h,gl];exact ha i hi
  ·rw[d j h (z76 b)];exact U _ _ (by lia) (zx2 b h)
 ·rw[hi,gl];rcases Nat.lt_trichotomy j l with h|h|h
  ·exact(z33 _ (zX8 h (zY8 (zZ5 hi.symm) a))).elim
  ·rw[h,gl];exact O.irr _
  ·rw[d j h (z76 b)];exact O.asy _ _ (hb (j-1) (zu8 h) (zx2 b h))
 ·rw[d i hi (z76 (z02 a b)),d j (zX8 hi a) (z76 b)];exact U _ _ (by lia) (by lia)
theorem ze0 (O:Ord lt):∀(f:Nat) (p:Array Nat) (k:Nat),0<k->k+f<=p.size->Up lt p k->(run lt (kas_bin f p k)).size=p.size/\(run lt (kas_bin f p k)).Perm p/\Up lt (run lt (kas_bin f p k)) (k+f)
 |0,p,k,_,_,U=>⟨rfl,yd7 _,U⟩
 |f+1,p,k,hk,hs,U=>by
  obtain⟨a,b,c⟩:=rK O U k 0 k (Nat.le_add_left _ _) (zZ4 _) (zY1 _) (λi hi=>(z33 _ (z02 (zZ4 _) hi)).elim) (λi x y=>(z33 _ (zX8 y x)).elim);have d:run lt (kas_bin (f+1) p k)=run lt (kas_bin f (bubble p k (k-run lt (kas_place p k k 0 k))) (k+1)):=by
   show run lt ((kas_place p k k 0 k).bind _)=_;rw[run_bind]
  rw[d];obtain⟨x,y,z⟩:=ze0 O f (bubble p k (k-run lt (kas_place p k k 0 k))) (k+1) (ye4 _) (by rw[bubble_size];exact iU hs) (eJ O (by lia) a U b c);have e:k+(f+1)=k+1+f:=zS7;rw[e];exact⟨by rw[x,bubble_size],y.trans (bubble_perm _ _ _),z⟩
theorem ib (O:Ord lt){n:Nat}(h:0<n):(run lt (kas_sort n)).size=n/\(run lt (kas_sort n)).Perm (List.range n).toArray/\Up lt (run lt (kas_sort n)) n:=by
 obtain⟨p,m,e,a,b,c,d,u⟩:=cW O (p:=(List.range n).toArray) (nrem:=n) h (by simp);unfold kas_sort;rw[run_bind,e];dsimp only;have f:p.size=n:=by rw[c];simp
 by_cases hm:m<n
 ·rw[if_pos hm];have em:max m 1=m:=by lia
  rw[em];obtain⟨x,y,z⟩:=ze0 O (n-m) p m (by lia) (by lia) u;refine⟨by rw[x,f],y.trans d,?_⟩;have e:m+(n-m)=n:=by lia
  rw[e]at z;exact z
 ·rw[if_neg hm];have e:m=n:=(z87 b (z86 hm));subst e;exact⟨f,d,u⟩
end SortA
namespace SortA
open PySem PySem.W PyProof.Rows
def xH {α:Type}(n:Nat)(P:α->Prop):KasT α->Prop
 |.ret a=>P a
 |.ask i j k=>i<n/\j<n/\∀b,xH n P (k b)
theorem xH.bind {α β:Type}{n:Nat}{P:α->Prop}{e:β->Prop}{f:α->KasT β}(d:∀a,P a->xH n e (f a)):∀t:KasT α,xH n P t->xH n e (t.bind f)
 |.ret a,h=>d a h
 |.ask i j k,⟨a,b,c⟩=>⟨a,b,λx=>xH.bind d (k x) (c x)⟩
def Bd (n:Nat)(p:Array Nat):Prop:=∀x∈p,x<n
theorem Bd.get {n:Nat}{p:Array Nat}(h:Bd n p)(hn:0<n)(i:Nat):p.getD i 0<n:=by
 by_cases hi:i<p.size
 ·have e:p.getD i 0=p[i]:=by simp[Array.getD,hi]
  rw[e];exact h _ (Array.getElem_mem hi)
 ·have e:p.getD i 0=0:=by simp[Array.getD,hi]
  rw[e];exact hn
theorem Bd.perm {n:Nat}{p q:Array Nat}(h:Bd n p)(e:q.Perm p):Bd n q:=λx a=>h x (e.mem_iff.mp a)
theorem rH {n:Nat}{p:Array Nat}(B:Bd n p)(hn:0<n):∀f k,xH n (λ_=>True) (kas_asc p f k)
 |0,_=>trivial
 |f+1,k=>⟨B.get hn _,B.get hn _,λb=>by
  cases b with
  |true=>exact trivial
  |false=>exact rH B hn f (k+1)⟩
theorem vw {n:Nat}(hn:0<n):∀f (p:Array Nat) k q,Bd n p->xH n (λr:Array Nat×Nat×Nat=>Bd n r.1) (kas_desc f p k q)
 |0,_,_,_,B=>B
 |f+1,p,k,q,B=>⟨B.get hn _,B.get hn _,λb=>by
  cases b with
  |true=>
   show xH n _ (if q > 0 then _ else _);split
   ·exact vw hn f _ _ _ (B.perm (yJ _ _ _))
   ·exact vw hn f _ _ _ B
  |false=>
   refine⟨B.get hn _,B.get hn _,λb=>?_⟩;cases b with
   |true=>exact B
   |false=>exact vw hn f _ _ _ B⟩
theorem sj {n:Nat}{p:Array Nat}(B:Bd n p)(hn:0<n)(m r:Nat):xH n (λr:Nat×Array Nat=>Bd n r.2) (kas_tail3 m r p):=by
 unfold kas_tail3;refine xH.bind (P:=λ_=>True) (λa _=>?_) _ (rH (B.perm (yJ _ _ _)) hn _ _);exact B.perm (yJ _ _ _)
theorem vP {n:Nat}{p:Array Nat}(B:Bd n p)(hn:0<n)(m r:Nat):xH n (λr:Nat×Array Nat=>Bd n r.2) (kas_descPart m r p):=
 xH.bind (λa ha=>by
  split
  ·exact sj (Bd.perm ha (yJ _ _ _)) hn _ _
  ·exact sj ha hn _ _) _ (vw hn _ _ _ _ B)
theorem kR {n:Nat}{p:Array Nat}(B:Bd n p)(hn:0<n)(r:Nat):xH n (λr:Nat×Array Nat=>Bd n r.2) (kas_count r p):=
 xH.bind (λa _=>by
  split
  ·exact B
  ·split
   ·refine⟨B.get hn _,B.get hn _,λb=>?_⟩;cases b with
    |true=>exact B
    |false=>exact vP (B.perm (yJ _ _ _)) hn _ _
   ·exact vP B hn _ _) _ (rH B hn _ _)
theorem uc {n:Nat}{p:Array Nat}(B:Bd n p)(hn:0<n)(k:Nat):∀f l r,xH n (λ_=>True) (kas_place p k f l r)
 |0,_,_=>trivial
 |f+1,l,r=>by
  show xH n _ (if l≥r then _ else _);split
  ·exact trivial
  ·refine⟨B.get hn _,B.get hn _,λb=>?_⟩;cases b with
   |true=>exact uc B hn k f _ _
   |false=>exact uc B hn k f _ _
theorem nO {n:Nat}(hn:0<n):∀f (p:Array Nat) k,Bd n p->xH n (λ_=>True) (kas_bin f p k)
 |0,_,_,_=>trivial
 |f+1,p,k,B=>xH.bind (λl _=>nO hn f _ _ (B.perm (bubble_perm _ _ _))) _ (uc B hn k _ _ _)
theorem pe {n:Nat}(hn:0<n):xH n (λ_=>True) (kas_sort n):=
 xH.bind (λa ha=>by
  split
  ·exact nO hn _ _ _ ha
  ·exact trivial) _ (kR (λx b=>by simpa using b) hn n)
theorem wp_run {α:Type}{n:Nat}{P:α->Prop}{cmp:Nat->Nat->(Bool->Shared->Prop)->Shared->Prop}{lt:Nat->Nat->Bool}{Q:α->Shared->Prop}{s:Shared}(d:∀i j C,i<n->j<n->C (lt i j) s->cmp i j C s):
  ∀t:KasT α,xH n P t->Q (run lt t) s->t.kasWp cmp Q s
 |.ret _,_,h=>h
 |.ask i j k,⟨a,b,c⟩,h=>d i j _ a b (wp_run d (k (lt i j)) (c _) h)
def lx (p q:Int×Int):Bool:=decide (p.1<q.1\/(p.1=q.1/\p.2<q.2))
def at2 (ps:List (Int×Int))(i:Nat):Int×Int:=ps.getD i (0,0)
theorem zB5 (ps:List (Int×Int)):Ord λi j=>lx (at2 ps i) (at2 ps j) where
 irr:=λa=>by simp[lx]
 tr:=λa b c=>by
  unfold lx;generalize at2 ps a=x;generalize at2 ps b=y;generalize at2 ps c=z;simp only[z43]
  lia
 asy:=λa b=>by
  unfold lx;generalize at2 ps a=x;generalize at2 ps b=y;simp only[z43,z44]
  lia
theorem kn (ps:List (Int×Int))(h:0<ps.length):∃d:List Nat,run (λi j=>lx (at2 ps i) (at2 ps j)) (kas_sort ps.length)=d.toArray/\d.length=ps.length/\(∀i∈d,i<ps.length)/\(d.map (at2 ps)).Perm ps/\(d.map (at2 ps)).Pairwise (λp q=>lx q p=false):=by
 obtain⟨a,b,c⟩:=ib (zB5 ps) h;generalize run (λi j=>lx (at2 ps i) (at2 ps j)) (kas_sort ps.length)=r at a b c;have e:(List.range ps.length).map (at2 ps)=ps:=by
  apply List.ext_getElem
  ·simp
  ·intro i f l;simp[at2,l]
 have pl:r.toList.Perm (List.range ps.length):=by
  have:=Array.perm_iff_toList_perm.mp b;simpa using this
 refine⟨r.toList,by simp,by simpa using a,λi hi=>by simpa using pl.mem_iff.mp hi,?_,?_⟩
 ·have:=pl.map (at2 ps);rw[e]at this;exact this
 ·rw[List.pairwise_map,List.pairwise_iff_getElem];intro i j hi o k;have f:j<r.size:=by simpa using o
  have:=c i j (z36 k) (by rw[<-a];exact f);have m:g r i=r.toList[i]:=by
   have:i<r.size:=by lia
   simp[g,Array.getD,this]
  have n:g r j=r.toList[j]:=by simp[g,Array.getD,f]
  rw[m,n]at this;exact this
end SortA
namespace L2
open PySem PySem.Spec PySem.Calls PySem.W PyProof.Rows SortA
section
variable {prog:Program}{w:World}{A:Around}{E:Value->Shared->Prop}{s:Shared}
def Prs (h:Heap):List Value->List (Int×Int)->Prop
 |[],[]=>True
 |v::vs,p::ps=>(∃a o t u n,v=.ref a/\h.get? a=some o/\o.cls=.type "tuple"/\o.data=.seq #[.int p.1 t,.int p.2 u] n)/\Prs h vs ps
 |_,_=>False
theorem Prs.len {h:Heap}:∀{vs:List Value}{ps:List (Int×Int)},Prs h vs ps->vs.length=ps.length
 |[],[],_=>rfl
 |[],_::_,h=>h.elim
 |_::_,[],h=>h.elim
 |_::_,_::_,⟨_,h⟩=>by simp[Prs.len h]
theorem Prs.at {h:Heap}:∀{vs:List Value}{ps:List (Int×Int)} (i:Nat),Prs h vs ps->i<ps.length->∃a o t u n,vs.getD i Value.none=.ref a/\h.get? a=some o/\o.cls=.type "tuple"/\o.data=.seq #[.int (at2 ps i).1 t,.int (at2 ps i).2 u] n
 |[],[],_,_,hi=>by simp at hi
 |[],_::_,_,h,_=>h.elim
 |_::_,[],_,h,_=>h.elim
 |_::_,_::_,0,⟨x,_⟩,_=>x
 |_::_,_::_,i+1,⟨_,r⟩,hi=>by
  obtain⟨a,o,t,u,n,e,q⟩:=Prs.at i r (by simpa using hi);exact⟨a,o,t,u,n,by simpa using e,q⟩
theorem Prs.tups {h:Heap}:∀{vs:List Value}{ps:List (Int×Int)},Prs h vs ps->∃fs:List Value,KatTups h vs fs/\fs.length=ps.length/\∀v∈fs,∃i t,v=.int i t
 |[],[],_=>⟨[],trivial,rfl,λ_ h=>by simp at h⟩
 |[],_::_,h=>h.elim
 |_::_,[],h=>h.elim
 |_::_,p::_,⟨⟨a,o,t,u,n,e,d,c,hd⟩,r⟩=>by
  obtain⟨fs,x,y,z⟩:=Prs.tups r;subst e;refine⟨.int p.1 t::fs,KatTups.cons d c hd (by simp) x,by simp[y],λv b=>?_⟩;rcases zY4.mp b with rfl|b
  ·exact⟨_,_,rfl⟩
  ·exact z v b
theorem bO {a b:Addr}{f ob:Obj}{p q:Int×Int}{t u t' i:Tok}{n k:Nat}{Q:Bool->Shared->Prop}(ha:s.heap.get? a=some f)(g:f.data=.seq #[.int p.1 t,.int p.2 u] n)(hb:s.heap.get? b=some ob)(db:ob.data=.seq #[.int q.1 t',.int q.2 i] k)
  (h:Q (lx p q) s):wpAny (model prog w) A (keyLt' (tuples' true) (.ref a) (.ref b)) Q E s:=by
 refine kat_lt ha g hb db (kat_cons (yc4 ?_));by_cases e:p.1=q.1
 ·have e1:(p.1 == q.1)=true:=by simp[e]
  rw[e1];refine kat_yes (kat_cons (yc4 ?_));by_cases d:p.2=q.2
  ·have c:(p.2 == q.2)=true:=by simp[d]
   rw[c];refine kat_yes (kat_nil ?_);have:lx p q=false:=by simp[lx,e,d]
   rw[this]at h;simpa using h
  ·have c:(p.2 == q.2)=false:=by simp[d]
   rw[c];refine kat_no (kat_one _ _ (wpAny_lt_int ?_));have:lx p q=decide (p.2<q.2):=by simp[lx,e]
   rw[this]at h;exact h
 ·have e1:(p.1 == q.1)=false:=by simp[e]
  rw[e1];refine kat_no (oneLt_int ?_);have:lx p q=decide (p.1<q.1):=by simp[lx,e]
  rw[this]at h;exact h
theorem kH {vs:List Value}{ps:List (Int×Int)}(d:2<=vs.length)(P:Prs s.heap vs ps){R:Array Nat->Shared->Prop}(hr:∀c:List Nat,c.length=ps.length->(∀i∈c,i<ps.length)->(c.map (at2 ps)).Perm ps->(c.map (at2 ps)).Pairwise (λp q=>lx q p=false)->R c.toArray s):
  wpAny (model prog w) A (keyKind' vs.toArray) (λx s'=>(kas_sort vs.length).kasWp (kas_ask prog w A x vs) R s') (λ_ _=>False) s:=by
 obtain⟨fs,t,F,hi⟩:=P.tups;have hlen:=P.len;refine kat_kind (T:=.type "int") t (by lia) (λv z=>?_) (by decide) ?_
 ·obtain⟨i,t,rfl⟩:=hi v z;exact .now
 ·have e:(Value.type "int" != Value.type "tuple")=true:=by decide
  rw[e];obtain⟨c,e1,r,y,f,h⟩:=kn ps (zy4 d hlen);rw[hlen];refine wp_run (n:=ps.length) (P:=λ_=>True) (lt:=λi j=>lx (at2 ps i) (at2 ps j)) (λi j C hi B g=>?_) _ (pe (zy4 d hlen)) ?_
  ·obtain⟨a,o,t,u,n,k,ha,_,l⟩:=P.at i hi;obtain⟨b,o',t',D,G,m,hb,_,db⟩:=P.at j B;unfold kas_ask;rw[k,m];exact bO ha l hb db g
  ·rw[e1];exact hr c r y f h
def Srt (vs:List Value)(ps:List (Int×Int))(out:List Value):Prop:=
 ∃a:List Nat,out=a.map (λi=>vs.getD i Value.none)/\a.length=ps.length/\(∀i∈a,i<ps.length)/\(a.map (at2 ps)).Perm ps/\(a.map (at2 ps)).Pairwise (λp q=>lx q p=false)
theorem Srt.len {vs:List Value}{ps:List (Int×Int)}{out:List Value}(h:Srt vs ps out):out.length=ps.length:=by
 obtain⟨a,rfl,e,_⟩:=h;simp[e]
end
inductive PrV (H:Hp):List V->List (Int×Int)->Prop where
 |nil:PrV H [] []
 |cons {a:Addr}{xs:List V}{p:Int×Int}{ps:List (Int×Int)}:H a=some (.tup [.int p.1,.int p.2])->PrV H xs ps->PrV H (.ref a::xs) (p::ps)
section
variable {X:Cx}{pins:List (Addr×Obj)}{σ:St}{H H':Hp}{s:Shared}
theorem PrV.len {xs:List V}{ps:List (Int×Int)}(h:PrV H xs ps):xs.length=ps.length:=by
 induction h with
 |nil=>rfl
 |cons _ _ a=>simp[a]
theorem PrV.keep {xs:List V}{ps:List (Int×Int)}(k:∀a p q,H a=some (.tup [.int p,.int q])->H' a=some (.tup [.int p,.int q]))(h:PrV H xs ps):PrV H' xs ps:=by
 induction h with
 |nil=>exact .nil
 |cons e _ b=>exact .cons (k _ _ _ e) b
theorem PrV.app {xs ys:List V}{ps a:List (Int×Int)}(h:PrV H xs ps)(h':PrV H ys a):PrV H (xs++ys) (ps++a):=by
 induction h with
 |nil=>exact h'
 |cons e _ b=>exact .cons e b
theorem PrV.prs (I:Inv X pins σ H s):∀{xs:List V}{ps:List (Int×Int)}{us:List Value},PrV H xs ps->Vals xs us->Prs s.heap us ps:=by
 intro xs ps us h
 induction h generalizing us with
 |nil=>intro r;cases r;exact trivial
 |@cons a xs p ps e _ ih=>
  intro r;cases r with
  |cons r d=>
   cases(show _=Value.ref a from r);obtain⟨_,its,f,o,c,b,n,hd⟩:=(show zA X.prog X.w H s.heap a (.tup [.int p.1,.int p.2])from I.hok a _ e);obtain⟨u,v,rfl,⟨t,rfl⟩,⟨t',rfl⟩⟩:=Vals.two f;exact⟨⟨a,o,t,t',n,rfl,c,b,hd⟩,ih d⟩
theorem rg {xs:List V}{us:List Value}(r:Vals xs us):∀i x,xs[i]?=some x->RelV x (us.getD i Value.none):=by
 induction r with
 |nil=>intro i x h;simp at h
 |cons e _ a=>
  intro i x h;cases i with
  |zero=>have h':=z07 (by simpa using h);subst h';exact e
  |succ i=>exact a i x (by simpa using h)
end
end L2
namespace Days
end Days
namespace L2
open PySem PySem.Spec PyProof.Rows Days
section
variable {X:Cx}{α:Ev}{e a b c tg:Expr}{pos p:Pos}{Q:PyData->Prop}{E:yp}{sts:List Stmt}
end
section
variable {X:Cx}{α:Ev}{tg:Expr}{pos p:Pos}{E:yp}{sts body:List Stmt}
end
def isNone :PyData->Bool
 |.none=>true
 |_=>false
abbrev eqS (d:PyData)(s:Str):Bool:=PyData.eqv d (.str s)
abbrev rp :PyData->Bool:=yW 0 1000000000000
def sr :PyData->Bool
 |.tuple [.int m,f]=>yW 2 14 (.int m)&&yW 1 (m-1) f
 |_=>false
def zP (w v:PyData):Bool:=
 if eqS w "price"=true then isNone v||rp v
 else if(eqS w "come"||eqS w "go")=true then isBool v
 else if(eqS w "least"||eqS w "most")=true then yW 1 14 v
 else if eqS w "deal"=true then isNone v||sr v
 else eqS w "fee"&&rp v
def xM :PyData->Bool
 |.tuple [w,a,b,v]=>vo (.tuple [a,b])&&zP w v
 |_=>false
abbrev words :List Str:=["price","come","go","least","most","deal","fee"]
def zQ1 (x y z:V):List (Str×V):=xV "worth" z (xV "last" y (xV "first" x []))
structure Cs where
 price:Addr
 come:Addr
 go:Addr
 least:Addr
 most:Addr
 deal:Addr
 fee:Addr
def Cs.of (c:Cs)(w:Str):Addr:=
 if w="price" then c.price else if w="come" then c.come else if w="go" then c.go else if w="least" then c.least else if w="most" then c.most else if w="deal" then c.deal else c.fee
structure tO (K:PySem.W.Frag)(C fI fT fE fW:Addr):Prop where
 cl:Cls K C
 nf:yw K C "first"
 nl:yw K C "last"
 nw:yw K C "worth"
 makes:Mk K C fI
 told:Meth K C "told" fT
 tells:Meth K C "tells" fE
 word:Meth K C "word" fW
theorem wz {d:PyData}{s:Str}(h:eqS d s=true):d=.str s:=by
 cases d with
 |str x=>
  have h':(x == s)=true:=h;rw[eq_of_beq h']
 |_=>simp[PyData.eqv]at h
theorem mE {w v:PyData}(h:zP w v=true):∃s∈words,w=.str s:=by
 unfold zP at h;split at h
 ·rename_i e;exact⟨"price",by simp[words],wz e⟩
 ·split at h
  ·rename_i e;rcases(yb4 _ _).mp e with e|e
   ·exact⟨"come",by simp[words],wz e⟩
   ·exact⟨"go",by simp[words],wz e⟩
  ·split at h
   ·rename_i e;rcases(yb4 _ _).mp e with e|e
    ·exact⟨"least",by simp[words],wz e⟩
    ·exact⟨"most",by simp[words],wz e⟩
   ·split at h
    ·rename_i e;exact⟨"deal",by simp[words],wz e⟩
    ·rw[z21]at h;exact⟨"fee",by simp[words],wz h.1⟩
theorem tf {d:PyData}(h:xM d=true):∃(s:Str) (a b v:PyData),s∈words/\d=.tuple [.str s,a,b,v]:=by
 unfold xM at h;split at h
 ·rename_i w a b v;rw[z21]at h;obtain⟨s,c,rfl⟩:=mE h.2;exact⟨s,a,b,v,c,rfl⟩
 ·cases h
section
variable {X:Cx}
end
abbrev wV (C:Addr)(fs:List (PyData×PyData)):PyData:=.dict ((.int (C:Nat),.none)::fs)
def sk :List (PyData×PyData)->Str->Option PyData
 |[],_=>none
 |(.str g,d)::r,f=>if f=g then some d else sk r f
 |_::r,f=>sk r f
theorem AVf.get {H:Hp}:∀{fs:List (Str×V)}{ds:List (PyData×PyData)}{f:Str}{d:PyData},AVf H fs ds->sk ds f=some d->∃v,fs.lookup f=some v/\AV H v d
 |_,_,f,d,.nil,e=>by cases e
 |_,_,f,d,.cons (f:=g) h r,e=>by
  rw[z42];unfold sk at e;by_cases z:f=g
  ·subst z;rw[if_pos rfl]at e;cases e;exact⟨_,by simp,h⟩
  ·rw[if_neg z]at e;have a:(f == g)=false:=by simpa using z
   rw[a];exact AVf.get r e
theorem AVf.none {H:Hp}{fs:List (Str×V)}{ds:List (PyData×PyData)}{f:Str}(h:AVf H fs ds)(e:sk ds f=Option.none):fs.lookup f=Option.none:=by
 induction h using AVf.ind with
 |nil=>rfl
 |@cons g _ _ _ _ h r ih=>
  rw[z42];unfold sk at e;by_cases z:f=g
  ·subst z;rw[if_pos rfl]at e;cases e
  ·rw[if_neg z]at e;have a:(f == g)=false:=by simpa using z
   rw[a];exact ih e
theorem AV.ins_inv {H:Hp}{v:V}{C:Addr}{ds:List (PyData×PyData)}(h:AV H v (wV C ds)):∃a dx fs,v=.ref a/\H a=some (.ins C dx fs)/\AVf H fs ds:=by
 generalize e:wV C ds=d at h;cases h with
 |@ins a b dx fs ds' h1 h2=>
  injection e with e;injection e with e1 g;have f:(C:Int)=(b:Int):=by
   have:=congrArg Prod.fst e1;injection this
  have c:C=b:=Int.ofNat.inj f;subst c g;exact⟨a,dx,fs,rfl,h1,h2⟩
 |_=>cases e
section
variable {X:Cx}{α:Ev}{o e:Expr}{es:List Expr}{pos apos p:Pos}{Q:PyData->Prop}{C:Addr}{f m:Str}
theorem wY (c:Cls X.K C)(na:yw X.K C f)(h:EvD X α o λx=>∃fs d,x=wV C fs/\sk fs f=some d/\Q d)(hb:attributeBase o f X.env (eval o X.env)=eval o X.env:=by rfl):EvD X α (.Attribute o f pos) Q:=λF σ H R m k=>by
 refine⟨_,zA6 zg hb,?_⟩;refine h F σ H _ m λx r H1 g t1 k1 i=>?_;obtain⟨fs,d,rfl,hf,q⟩:=g;obtain⟨a,dx,l,rfl,j,b⟩:=i.ins_inv;obtain⟨v,n,av⟩:=b.get hf;exact⟨a,C,dx,l,v,rfl,(zb j).2,c,na,n,k d v H1 q t1 k1 av⟩
structure xC (P:Program)(w:World)(K:PySem.W.Frag)(mg:Str->Option Value)(base:Heap)(C:Addr)(m:Str)(k:Nat)(φ:List A->(A->Prop)->Prop):Prop where
 ex:∃f fd ps,Cls K C/\Meth K C m f/\Binds K fd ps []/\yn P w K mg base CX0 k f fd ps (spA φ)
theorem pS {k:Nat}{φ:List A->(A->Prop)->Prop}{pl:Sem Bool}(u:xC X.prog X.w X.K X.mg X.base C m k φ)(hr:zG k X.A)(h:EvD X α o λx=>∃fs,x=wV C fs/\sk fs m=none/\EvA X α (e::es) λas=>φ (.dat (wV C fs)::as) λa=>Q a.d)
  (b:starEach (e::es) X.env=(false,eval e X.env)::starEach es X.env:=by rfl) (hpl:(backTo pos (starEach es X.env)).any (·.1)=false:=by rfl)
  (s:eval (.Call (.Attribute o m apos) (e::es) [] pos) X.env=(do
   let ov <-eval o X.env
   standAt apos.atName
   let(f,first) <-holding [ov] (getMethod ov m pl)
   callWith pos f first (backTo pos (starEach (e::es) X.env)) (backToKw pos (keywordEach [] X.env))):=by rfl):EvD X α (.Call (.Attribute o m apos) (e::es) [] pos) Q:=λF σ H R i l=>by
 obtain⟨f,fd,ps,c,hm,hb,G⟩:=u.ex;refine⟨_,zi5 zg c hm G hr hb .nil qL yv b hpl s,?_⟩;refine h F σ H _ i λx M H1 D t1 k1 g=>?_;obtain⟨fs,rfl,hf,q⟩:=D;have m1:=i.kz k1 t1;obtain⟨a,dx,J,rfl,r,B⟩:=g.ins_inv;refine⟨a,dx,J,rfl,(zb r).2,B.none hf,?_⟩;refine q F σ H1 _ m1 λas vs L n t2 k2 I=>?_;have m2:=m1.kz k2 t2;have j:=wB (vs:=.ref a::vs) (as:=.dat (wV C fs)::as) (R:=R) (E:=E0) m2 (.cons (g.same (k2.gz m1.tp)) I) n λz v H' t y=>by
  obtain⟨g1,g2,g3⟩:=y.back m2;exact l _ v H' t g1 ((k1.trans k2).trans g2) g3
 exact j
theorem rV {k:Nat}{φ:List A->(A->Prop)->Prop}{pl:Sem Bool}(s:xC X.prog X.w X.K X.mg X.base C m k φ)(hr:zG k X.A)(h:EvD X α o λx=>∃fs,x=wV C fs/\sk fs m=none/\φ [.dat (wV C fs)] λa=>Q a.d)
  (n:eval (.Call (.Attribute o m apos) [] [] pos) X.env=(do
   let ov <-eval o X.env
   standAt apos.atName
   let(f,first) <-holding [ov] (getMethod ov m pl)
   callWith pos f first (backTo pos (starEach [] X.env)) (backToKw pos (keywordEach [] X.env))):=by rfl):EvD X α (.Call (.Attribute o m apos) [] [] pos) Q:=λF σ H R g j=>by
 obtain⟨f,fd,ps,c,hm,hb,G⟩:=s.ex;refine⟨_,za0 zg c hm G hr hb .nil qL n,?_⟩;refine h F σ H _ g λx D H1 y t1 k1 b=>?_;obtain⟨fs,rfl,hf,q⟩:=y;have m1:=g.kz k1 t1;obtain⟨a,dx,B,rfl,l,u⟩:=b.ins_inv;refine⟨a,dx,B,rfl,(zb l).2,u.none hf,?_⟩;have i:=wB (vs:=[.ref a]) (as:=[.dat (wV C fs)]) (R:=R) (E:=E0) m1 (.cons b .nil) q λz v H' r t=>by
  obtain⟨g1,g2,g3⟩:=t.back m1;exact j _ v H' r g1 (k1.trans g2) g3
 exact i
def zj8 (F:Fr)(v:V)(H':Hp)(d:PyData):Prop:=zD F H'/\Kz F F.H0 H'/\AV (sub (λx=>¬F.O0 x/\∀xs,F.H0 x≠some (.lst xs)) H') v d
def EvN (X:Cx)(α:Ev)(e:Expr)(Q:PyData->Prop):Prop:=∀(F:Fr) (σ:St) (H:Hp) (R:VK),M F α σ H->(∀d v H',Q d->zD F H'->Kz F H H'->AV (sub (λx=>¬Ow F α σ x/\∀xs,H x≠some (.lst xs)) H') v d->R v H')->uF X e σ H R
theorem EvN.d (h:EvN X α e Q):EvD X α e Q:=λF σ H R m k=>h F σ H R m λd v H' q t z r=>k d v H' q t z (r.same (zm λa o h e=>⟨h.1,e⟩))
def spI (C:Addr)(φ:List A->(A->Prop)->Prop):Sp:=λvs H a _=>∃(F:Fr) (as:List A) (Q:A->Prop) (x dx:Addr) (vs':List V) (H1:Hp),vs=.ref x::vs'/\H1 x=none/\H1 dx=none/\dx≠x/\H=upd (upd H1 dx (.own x)) x (.ins C dx [])/\
 F.H0=H1/\zD F H1/\(∀y,F.O0 y->∃u,H1 y=some u/\wt u)/\zV F (sub (λy=>¬F.O0 y) H1) vs' as/\φ as Q/\∀d H',Q (.dat d)->zj8 F (.ref x) H' d->a .non H'
structure ud (P:Program)(w:World)(K:PySem.W.Frag)(mg:Str->Option Value)(base:Heap)(x:Str)(k:Nat)(dvs:List V)(φ:List A->(A->Prop)->Prop):Prop where
 ex:∃C f fd ps ds,mg x=some (.ref C)/\Mk K C f/\Binds K fd ps ds/\Vals dvs ds/\yn P w K mg base CX0 k f fd ps (spI C φ)
theorem jw {F:Fr}{σ:St}{H:Hp}{vs:List V}{as:List A}{b:A->Prop}{R:VK}{φ:List A->(A->Prop)->Prop}(m:M F α σ H)(h:zV F (Gz F α σ H) vs as)(a:φ as b)
  (c:∀d v H',b (.dat d)->zj8 ⟨H,Ow F α σ,F.tp⟩ v H' d->R v H') {E:XK} (x dx:Addr) (g:H x=none) (hdx:H dx=none) (hne:dx≠x):spI C φ (.ref x::vs) (upd (upd H dx (.own x)) x (.ins C dx [])) (λv j=>v=.non/\R (.ref x) j) E:=by
 refine⟨⟨H,Ow F α σ,F.tp⟩,as,b,x,dx,vs,H,rfl,g,hdx,hne,rfl,rfl,?_,?_,?_,a,λd H' i k=>⟨rfl,c d _ H' i k⟩⟩
 ·exact m.tp.to rfl λ_ z=>.inl z
 ·exact λy z=>m.owEx z
 ·exact zV.to (F:=F) (F':=⟨H,Ow F α σ,F.tp⟩) (λ_ _ e=>e) rfl h
theorem zj8.back {F:Fr}{σ:St}{H H1 H':Hp}{v:V}{d:PyData}(m:M F α σ H)(k1:Kz F H H1)(h:zj8 ⟨H1,Ow F α σ,F.tp⟩ v H' d):zD F H'/\Kz F H1 H'/\AV (sub (λx=>¬Ow F α σ x/\∀xs,H x≠some (.lst xs)) H') v d:=by
 obtain⟨t,kz,r⟩:=h;refine⟨m.tp.re t rfl,kz,r.same (zm λa o h e=>⟨⟨h.1,λxs z=>h.2 xs (k1 _ _ z (m.tp.nt (ow0 h.1)))⟩,e⟩)⟩
theorem zl5 {k:Nat}{φ:List A->(A->Prop)->Prop}{x:Str}(j:ud X.prog X.w X.K X.mg X.base x k [] φ)(hr:zG (k+1) X.A)(hg:Gl X x)(h:EvA X α (e::es) λas=>φ as λa=>Q a.d)
  (b:(x == ("__debug__":Str))=false:=by decide) (he:starEach (e::es) X.env=(false,eval e X.env)::starEach es X.env:=by rfl) (hpl:(backTo pos (starEach es X.env)).any (·.1)=false:=by rfl):EvN X α (.Call (.Name x p) (e::es) [] pos) Q:=λF σ H R m c=>by
 obtain⟨C,f,fd,ps,ds,hm,hk,hb,hd,G⟩:=j.ex;cases hd;refine⟨_,zm1 hk G hr hg hm hb .nil qL yv b he hpl,?_⟩;refine h F σ H _ m λas vs H1 n t1 k1 g=>?_;have m1:=m.kz k1 t1;intro y dx hy hdx hne;rw[z51];refine jw m1 g n (λd v H' i l=>?_) y dx hy hdx hne;obtain⟨g1,g2,g3⟩:=l.back m k1;exact c d v H' i g1 (k1.trans g2) g3
end
structure zH1 (K:PySem.W.Frag)(x qual:Str)(st:Stmt)(dV:Value)(f:Addr)(fd:FuncData):Prop where
 ex:∃(oc:Value) (od:Option Addr) (kV doc pm:Value) (an:Option Addr) (cdv ct:Value) (osl:Array (Option Value)),
  fd=PySem.W.fnOf x qual (zN st) (zr st) (zd st) dV kV doc pm an cdv ct/\K.lookup f=some ⟨oc,od,.func fd,osl⟩/\PySem.W.codeIn K cdv qual=true
 kp:PySem.W.keepIn K (.ref f)=true
theorem zj7 {K:PySem.W.Frag}{x qual:Str}{st:Stmt}{f:Addr}{oc:Value}{od an:Option Addr}{osl:Array (Option Value)}{dV kV doc pm cdv ct:Value}(l:K.lookup f=some ⟨oc,od,.func (PySem.W.fnOf x qual (zN st) (zr st) (zd st) dV kV doc pm an cdv ct),osl⟩)
  (c:PySem.W.codeIn K cdv qual=true) (k:PySem.W.keepIn K (.ref f)=true):zH1 K x qual st dV f (PySem.W.fnOf x qual (zN st) (zr st) (zd st) dV kV doc pm an cdv ct):=⟨⟨oc,od,kV,doc,pm,an,cdv,ct,osl,rfl,l,c⟩,k⟩
section
variable {P:Program}{w:World}{K:PySem.W.Frag}{mg:Str->Option Value}{base:Heap}
theorem zN6 {qual:Str}{st:Stmt}{f C:Addr}{dV:Value}{fd:FuncData}{N:List Str}{x:Str}{k:Nat}{φ:List A->(A->Prop)->Prop}{fl:Str}{e:Expr}{p1 p2 p3:Pos}(G:zH1 K "__init__" qual st dV f fd)(S:zI ("self"::x::N) ["self",x] (zd st))(c:Cls K C)(na:yw K C fl)
  (hb:zr st=[.Assign [.Attribute (.Name "self" p1) fl p2] e p3]) (hlen:∀as Q,φ as Q->as.length=1)
  (O:∀(cdv:Value) (I:Around) (outer:List Env) (s:Shared) (H:Hp) (E:XK) (as:List A) (Q:A->Prop),zG k (I.deeper (envOfC qual (zd st) s.heap.objs.size f cdv))->φ as Q->
   EvL (xp CX0 P w K mg base ("self"::x::N) qual (zd st) f cdv I outer s H E).nox (none::as.map some++List.replicate N.length none) e λds=>xQ ds=true/\Q (.dat (wV C [(.str fl,.list ds)])))
  (a5:∀(cdv:Value) (I:Around) (outer:List Env) (s:Shared) (H:Hp) (E:XK),swapsWith e (some (.Attribute (.Name "self" p1) fl p2)) p3.line (xp CX0 P w K mg base ("self"::x::N) qual (zd st) f cdv I outer s H E).nox.env=pure false)
  (hv:Vis (zd st) "self"):yn P w K mg base CX0 (k+1) f fd ["self",x] (spI C φ):=by
 obtain⟨oc,od,kV,doc,pm,an,cdv,ct,osl,rfl,lk,a4⟩:=G.ex;refine jW lk a4 S (λvs H Q E h=>?_) λI outer s H vs Qc E hr h=>?_
 ·obtain⟨F,as,Q',y,dx,vs',H1,rfl,_,_,_,_,_,_,_,U,B,_⟩:=h;rw[z00,U.length,hlen as _ B];rfl
 ·obtain⟨F,as,Q',y,dx,vs',H1,rfl,hy,hdx,hne,rfl,rfl,t,o,U,B,kk⟩:=h;have hl:=U.length;have a8:=hlen as _ B;rw[hb];refine⟨_,(show PSs _ _ _ from(wF (nc (X:=(xp CX0 P w K mg base ("self"::x::N) qual (zd st) f cdv I outer s (upd (upd F.H0 dx (.own y)) y (.ins C dx [])) E).nox) (yF (i:=0) rfl hv) zg (a5 cdv I outer s _ E))).nox),?_⟩
  let F2:Fr:=⟨F.H0,λz=>F.O0 z\/z=y\/z=dx,F.tp⟩
  have s1:zw F.H0 (upd (upd F.H0 dx (.own y)) y (.ins C dx [])):=λa u q=>by rw[zc (zh q hy),zc (zh q hdx)];exact q
  have L:¬F.O0 y:=λz=>by obtain⟨u,p,_⟩:=o y z;rw[hy]at p;cases p
  have b0:¬F.O0 dx:=λz=>by obtain⟨u,p,_⟩:=o dx z;rw[hdx]at p;cases p
  have t2:zD F2 (upd (upd F.H0 dx (.own y)) y (.ins C dx [])):=(t.same s1).to rfl λ_ z=>.inl z
  -- the names of the body
  have g:∀{i:Nat} {a:A},(none::as.map some++List.replicate N.length none:Ev)[i]?=some (some a)->∃j,i=j+1/\as[j]?=some a:=λ{i a} h=>by
   cases i with
   |zero=>simp at h
   |succ j=>
    refine⟨j,rfl,?_⟩;have h':(as.map some++List.replicate N.length none:Ev)[j]?=some (some a):=by simpa using h
    rcases z97 j as.length with z|z
    ·rw[z22 (by rw[zX7];exact z),zZ1,zZ6]at h';obtain⟨b,Y,R⟩:=h';cases R;exact Y
    ·rw[z38 (by rw[zX7];exact z),z91]at h';split at h'<;>cases h'
  have at':∀{vs:List V} {as:List A} {i:Nat} {a:A},zV F (sub (λx=>¬F.O0 x) F.H0) vs as->as[i]?=some a->∃v,vs[i]?=some v/\fG F (sub (λx=>¬F.O0 x) F.H0) v a:=by
   intro vs as i a h
   induction h generalizing i with
   |nil=>intro e;simp at e
   |cons h r ih=>
    intro e;cases i with
    |zero=>simp at e;subst e;exact⟨_,rfl,h⟩
    |succ i=>obtain⟨v,Y,R⟩:=ih (by simpa using e);exact⟨v,by simpa using Y,R⟩
  have gv:∀{j:Nat} {v:V},vs'[j]?=some v->(L2.start ("self"::x::N) (.ref y::vs'))[j+1]?=some (some v):=λ{j v} h=>by
   have hj:j<vs'.length:=(zX9.mp h).1;unfold L2.start;rw[z22 (by rw[zX7,z00];exact Nat.add_lt_add_right hj _),zZ1,yf3,h];rfl
  have no:∀(i:Nat) a,(none::as.map some++List.replicate N.length none:Ev)[i]?=some (some a)->(∃d,a=.dat d)\/a=.tape:=λi a z=>by
   obtain⟨j,_,hj⟩:=g z;obtain⟨v,_,h⟩:=at' U hj;cases a with
   |dat d=>exact .inl ⟨d,rfl⟩
   |tape=>exact .inr rfl
   |_=>exact h.elim
  have gs:zw (sub (λx=>¬F.O0 x) F.H0) (Gz F2 (none::as.map some++List.replicate N.length none) (L2.start ("self"::x::N) (.ref y::vs')) (upd (upd F.H0 dx (.own y)) y (.ins C dx []))):=λa u q=>by
   obtain⟨Z,D⟩:=zb q;refine zu ?_ (s1 _ _ D);rintro((z|z|z)|⟨i,b,s,e,_,f⟩)
   ·exact Z z
   ·rw[z,hy]at D;cases D
   ·rw[z,hdx]at D;cases D
   ·rcases no i b e with⟨d,rfl⟩|rfl
    ·exact f.elim
    ·exact f.elim
  have m2:M F2 (none::as.map some++List.replicate N.length none) (L2.start ("self"::x::N) (.ref y::vs')) (upd (upd F.H0 dx (.own y)) y (.ins C dx [])):=by
   refine⟨by unfold L2.start;simp[hl,a8],λi a s e1 e2=>?_,λi j a b s t x e1 _ _ _ f=>?_,λi r q z=>(by rcases no i _ z with⟨d,w⟩|w<;>cases w),t2,λz u h _=>s1 z u h,λz hz=>?_⟩
   ·obtain⟨j,rfl,hj⟩:=g e1;obtain⟨v,Y,R⟩:=at' U hj;rw[gv Y]at e2;cases e2;rcases no _ a e1 with⟨d,rfl⟩|rfl
    ·exact⟨v,rfl,AV.same gs R⟩
    ·obtain⟨t',b,c,h3,rfl⟩:=R;exact⟨t',b,c,h3,rfl⟩
   ·rcases no i a e1 with⟨d,rfl⟩|rfl
    ·exact f.elim
    ·exact f.elim
   ·rcases hz with q|q|q
    ·obtain⟨u,p,hn⟩:=o z q;exact⟨u,s1 _ _ p,hn⟩
    ·exact⟨_,by rw[q];exact zf,λ_ q=>by cases q⟩
    ·exact⟨_,by rw[q,zc hne];exact zf,λ_ q=>by cases q⟩
  refine O cdv I outer s _ E as Q' hr B F2 _ _ _ m2 λd v H2 qd t3 k3 r3=>?_;obtain⟨l,xs,rfl,m,a7,a9⟩:=r3;obtain⟨a6,qd⟩:=qd;have a0:l≠y:=λz=>by rw[z,zf]at m;cases m
  have a1:l≠dx:=λz=>by rw[z,zc hne,zf]at m;cases m
  have J:F.H0 l=none:=by rw[zc a0,zc a1]at m;exact m
  have a2:¬F.O0 l:=λz=>by obtain⟨u,p,_⟩:=o l z;rw[J]at p;cases p
  have a3:NT F2 y:=t.nt L;have T:H2 y=some (.ins C dx []):=k3 _ _ zf a3;refine⟨.ref y,rfl,y,C,dx,[],rfl,T,c,na,by show 0<1000;decide,?_⟩;refine kk _ _ qd ⟨(t.re t3 rfl).updO L (ff T),λz u h n=>?_,?_⟩
  ·rw[zc (zh h hy)];exact k3 _ _ (s1 _ _ h) n
  ·refine AV.ins (zu ⟨L,λxs z=>by rw[hy]at z;cases z⟩ zf) (.cons (.lst (zu ⟨a2,λxs z=>by rw[J]at z;cases z⟩ (by rw[zc a0];exact a7)) ?_) .nil);refine a9.noL (λa u hno z=>?_) a6;obtain⟨Z,D⟩:=zb z;have na:a≠y:=λw=>Z.1 (.inl (.inr (.inl w)));refine zu ⟨λw=>Z.1 (.inl (.inl w)),λxs w=>?_⟩ (by rw[zc na];exact D);have:H2 a=some (.lst xs):=k3 _ _ (s1 _ _ w) (t.nt λw=>Z.1 (.inl (.inl w)));rw[D]at this;cases this;exact hno trivial
end
section
variable {X:Cx}{α:Ev}{e e':Expr}{pos:Pos}{E:yp}{sts:List Stmt}
end
def Itv (K:PySem.W.Frag)(a:Addr)(n:Nat):It:=
 ⟨λi H=>∃xs x,SqL K H a xs/\xs.length=n/\i<n/\xs[n-1-i]?=some x,λi H x H'=>H'=H/\∀xs,SqL K H a xs->xs[n-1-i]?=some x,λi H=>n<=i⟩
theorem cu {P:Program}{w:World}{K:PySem.W.Frag}{tg:Expr}(a it:Addr)(n:Nat):Turn P w K tg (Itv K a n) [it] it (λi h=>i<=n/\h.IsRevIter it a ((n:Int)-1-(i:Int))) where
 mem:=by simp
 obj:=λi h st b hb=>by
  have e:b=it:=by simpa using hb
  subst e;obtain⟨_,o,e,c,d⟩:=st;exact⟨o,e,λv z=>by rw[d]at z;cases z⟩
 keep:=λi h h' st k=>⟨st.1,st.2.at λo e=>k it (by simp) o e⟩
 item:=by
  intro X m hw hK q i pins s σ H E I hf st hg;subst m hw hK;obtain⟨xs,x,hq,J,hi,r⟩:=hg;obtain⟨its,y,p,hz⟩:=I.list hq;obtain⟨u,F,G⟩:=y.get r;obtain⟨f0,f1,f2,j,f4,l⟩:=hf it (by simp);have e1:((n:Int)-1-(i:Int))=((n-1-i:Nat):Int):=by lia
  have f:=st.2;rw[e1]at f;refine wpAny_pyNext_rev_item f p.isList (x:=u) (by simpa using F) λh' g t=>?_;have B:Inv X pins σ H {s with heap:=h'}:=I.turned (t':=s.toks) (λb o hb e=>(t.2 b hb).trans e) f0 f1 j f4 l;obtain⟨o,e,c,d⟩:=id g;have D:(((n-1-i:Nat):Int)-1)=(n:Int)-1-((i+1:Nat):Int):=by lia
  rw[D]at g;exact⟨u,rfl,nv (s:={s with heap:=h'}) e c d (by decide) ⟨x,H,B,G,⟨rfl,λys hy=>by rw[I.list_inj hy hq];exact r⟩,⟨hi,g⟩,λb hb=>(hf b hb).1⟩⟩
 done:=by
  intro X m hw hK q i pins s σ H E I hf st hg;subst m hw hK;have hi:i=n:=z87 st.1 hg;obtain⟨f0,f1,f2,j,f4,l⟩:=hf it (by simp);have f:=st.2;rw[show((n:Int)-1-(i:Int))=-1 by lia]at f;exact wpAny_pyNext_rev_end (I.ok.hd q) f λh' C=>⟨rfl,I.turned (t':=s.toks) (λb o hb e=>C b o hb e) f0 f1 j f4 l⟩
 self:=λA i s Q E st h=>wpAny_pyIter_revIter st.2 h
section
variable {X:Cx}{α:Ev}{tg:Expr}{p pos:Pos}{a:Expr}
def zW1 (K:PySem.W.Frag)(b:TA):TI:=λσ H R=>b σ H λvs H1=>∃l xs,vs=[.ref l]/\SqL K H1 l xs/\R (Itv K l xs.length) H1
theorem zJ7 {k:TA}(hg:Gl X "reversed")(hm:X.mg "reversed"=none)(ha:PA X [a] k)(t:starEach [a] X.env=[(false,eval a X.env)]:=by rfl):PI X tg (.Call (.Name "reversed" p) [a] [] pos) (zW1 X.K k):=by
 intro pins s σ H R I h;refine Call_ (yT I hg hm boot_reversed (z30 (thn (ha pos pins s σ H _ I h) λus s1 g=>?_) t rfl));obtain⟨vs,H1,f,l,m⟩:=g;obtain⟨l1,xs,e,i,q⟩:=m;subst e;obtain⟨u,rfl,r⟩:=Vals.one l;cases(show u=Value.ref l1 from r);obtain⟨c,j,p1,n⟩:=f.list i;have hlen:=j.length;refine call_reversed_list p1.isList ?_;have d:({s1 with heap:=s1.heap.push (revObj l1 ((c.toArray.size:Int)-1))}:Shared).heap.IsRevIter s1.heap.objs.size l1 ((xs.length:Int)-1-((0:Nat):Int)):=by
  refine⟨_,zY7 _ rfl,rfl,?_⟩;show Data.fields _=_;rw[zZ0,hlen];simp
 refine wpAny_pyIter_revIter d ?_;refine⟨_,_,_,_,H1,rfl,f.kept (t':=s1.toks) λb o e=>zX6 _ e,cu l1 _ xs.length,⟨zZ4 _,d⟩,λb hb=>?_,q⟩;have e:b=s1.heap.objs.size:=by simpa using hb
 subst e;exact f.fpOk (zY1 _) (f.hok.fresh (zY1 _))
theorem zH6 {Q:List PyData->Prop}(hg:Gl X "reversed")(hm:X.mg "reversed"=none)(h:EvD X α a λx=>∃ds,x=.list ds/\Q ds.reverse)(f:starEach [a] X.env=[(false,eval a X.env)]:=by rfl):
  EvI X α tg (.Call (.Name "reversed" p) [a] [] pos) Q:=λF σ H R m k=>by
 refine⟨_,zJ7 hg hm (zp zg zF f) f,?_⟩;refine h F σ H _ m λx n H1 j t1 k1 g=>?_;obtain⟨ds,rfl,q⟩:=j;obtain⟨l1,xs,rfl,g1,g2⟩:=g.lst_inv;refine⟨l1,xs,rfl,SqL.of (zb g1).2,k _ _ H1 q t1 k1 λi H3 p s=>⟨λd hd=>?_,λe=>?_⟩⟩
 ·have s1:=SqL.of (K:=X.K) (zb (s _ _ g1)).2;have hi:i<ds.length:=by
   have:=(zX9.mp hd).1
   rwa [z80]at this
  rw[List.getElem?_reverse hi]at hd;obtain⟨l,b,c⟩:=g2.get hd;rw[<-g2.length]at b;refine⟨⟨xs,l,s1,rfl,by rw[g2.length];exact hi,b⟩,λv o y=>?_⟩;obtain⟨rfl,hy⟩:=y;have:=hy _ s1;rw[b]at this;cases this;exact⟨zw.refl _,λ_=>c.same s⟩
 ·rw[z80,<-g2.length]at e;exact e
end
def EnS (w:World):List DictEntry->List (Str×V)->Prop:=Paired λe p=>e.hash=hashStr w p.1/\(∃t,e.key=.str p.1 t)/\RelV p.2 e.val
def iu (K:PySem.W.Frag)(w:World)(d:Addr)(b:List (Str×V)):Prop:=
 ∃a n,K.lookup d=some ⟨.type "dict",none,.dict a n,#[]⟩/\EnS w a.toList b/\(b.map (·.1)).Nodup
theorem eL {P:Program}{w:World}{a:List DictEntry}{b:List (Str×V)}(h:EnS w a b):Pairs (PySem.strKind P w) a (List.zipWith (λe (p:Str×V)=>(p.1,e.val)) a b):=by
 induction h with
 |nil=>exact .nil
 |cons q _ d=>
  obtain⟨_,⟨t,c⟩,_⟩:=q;exact .cons (by rw[c];simp[PySem.strKind,Value.isStrOf]) rfl d
theorem zp2 {w:World}{b:List DictEntry}{a:List (Str×V)}(h:EnS w b a):(List.zipWith (λe (p:Str×V)=>(p.1,e.val)) b a).map (·.1)=a.map (·.1):=by
 induction h with
 |nil=>rfl
 |cons _ _ c=>simp only[List.zipWith_cons_cons,z03,c]
theorem dJ {P:Program}{w:World}{a:List DictEntry}{b:List (Str×V)}(h:EnS w a b):∀e∈a,∃k,(PySem.strKind P w).is k e.key=true/\e.hash=(PySem.strKind P w).hash k:=by
 induction h with
 |nil=>intro e he;simp at he
 |@cons _ p _ _ q _ ih=>
  obtain⟨d,⟨t,c⟩,_⟩:=q;intro e he;rcases zY4.mp he with rfl|he
  ·exact⟨p.1,by rw[c];simp[PySem.strKind,Value.isStrOf],d⟩
  ·exact ih e he
theorem zq0 {w:World}{x:Str}{v:V}{b:List DictEntry}{a:List (Str×V)}(d:EnS w b a)(h:a.lookup x=some v):∃u,valueAt (List.zipWith (λe (p:Str×V)=>(p.1,e.val)) b a) x=some u/\RelV v u:=by
 induction d with
 |nil=>simp at h
 |@cons e p _ _ k _ ih=>
  obtain⟨y,z⟩:=p;by_cases q:x=y
  ·subst q;simp only[List.lookup_cons_self,Option.some.injEq]at h;subst h;exact⟨e.val,by simp[valueAt],k.2.2⟩
  ·rw[z42,z79.mpr q]at h;obtain⟨u,f,c⟩:=ih h;refine⟨u,?_,c⟩;rw[<-f];simp[valueAt,z60,z24 q]
section
variable {X:Cx}{α:Ev}{p pos:Pos}{a:Expr}{g:Str}{Q:PyData->Prop}
def zf4 (i:Expr):Prop:=∀c b,subscripted i false c b=operate [c,b] (getItem c b)
theorem zS4 {prog:Program}{w:World}{A:Around}{E:Value->Shared->Prop}{s:Shared}{env:Env}{value slice:Expr}{pos:Pos}{T id:String}{Q:Value->Shared->Prop}
  (k:typeLookup (.type T) "__getitem__"=pure (some (.builtin id))) (l:zf4 slice)
  (h:wpAny (model prog w) A (eval value env) (λo d=>wpAny (model prog w) A (eval slice env) (λi b=>b.TypeIs o T/\wpAny (model prog w) A (getItem o i) Q E b) E d) E s):
  wpAny (model prog w) A (eval (.Subscript value slice pos) env) Q E s:=by
 refine Subscript_ (thn h λo d f=>thn f λi b c=>?_);obtain⟨hT,c⟩:=c;unfold subscriptTail;refine zX5 ?_;rw[getitemInPython_of_ne hT.not_modules];refine zX5 (yd8 hT k ?_);have fin:wpAny (model prog w) A (subscripted slice false o i) (λr e=>wpAny (model prog w) A (letTemporaryGo value o r >>= λ_=>pure r) Q E e) E b:=by
  rw[l o i];exact wpAny_operating (thn c λr e j=>zX5 (wpAny_letTemporaryGo (zY3 j)))
 first
  |exact zY3 (zX5 fin)
  |exact zX5 (zY3 (zX5 fin))
  |exact zX5 fin
theorem cK {d:Addr}{c:List (Str×V)}{ty:TE}(hg:Gl X g)(hm:X.mg g=some (.ref d))(hd:iu X.K X.w d c)(hi:PE X a ty)(A:zf4 a)(hb:(g == ("__debug__":Str))=false:=by decide):
  PE X (.Subscript (.Name g p) a pos) (λσ H Q=>ty σ H λy H1=>∃x v,y=.str x/\c.lookup x=some v/\Q v H1):=by
 intro pins s σ H Q I h;refine zS4 yd9.lookup A (xK I hg hm (thn (hi pins s σ H _ I h) λB s2 b=>?_) hb);obtain⟨y,o,j,l,x,v,z,ex,k⟩:=b;subst z;obtain⟨t,rfl⟩:=l;obtain⟨i,n,q,he,hn⟩:=hd;have dd:s2.heap.DictOf (PySem.strKind X.prog X.w) d (List.zipWith (λe (p:Str×V)=>(p.1,e.val)) i.toList c):=
  ⟨_,i,n,j.kIn _ _ q,⟨rfl,rfl,rfl⟩,rfl,λe f=>dJ he e (by simpa using f),eL he,by rw[zp2 he];exact hn⟩
 obtain⟨u,m,r⟩:=zq0 he ex;exact⟨dd.typeIs,wpAny_getItem_of (show(PySem.strKind X.prog X.w).is x (.str x t)=true by simp[PySem.strKind,Value.isStrOf]) dd.mapOf m ⟨v,o,j.tok _,r,k⟩⟩
def scV :PyData->Option V
 |.none=>some .non
 |.bool b=>some (.bl b)
 |.int i=>some (.int i)
 |.str x=>some (.str x)
 |_=>Option.none
theorem bP {H:Hp}{d:PyData}{v:V}(h:scV d=some v):AV H v d:=by
 cases d<;>simp[scV]at h<;>subst h<;>constructor
theorem aJ {d:Addr}{b:List (Str×V)}(hg:Gl X g)(hm:X.mg g=some (.ref d))(hd:iu X.K X.w d b)(h:EvD X α a λy=>∃x d v,y=.str x/\b.lookup x=some v/\scV d=some v/\Q d)(j:zf4 a:=by exact λ_ _=>rfl)
  (hb:(g == ("__debug__":Str))=false:=by decide):EvD X α (.Subscript (.Name g p) a pos) Q:=λF σ H R m k=>by
 refine⟨_,cK hg hm hd zg j hb,?_⟩;refine h F σ H _ m λy l H1 e t1 k1 f=>?_;obtain⟨x,d',v,rfl,i,c,q⟩:=e;cases f.str_inv;exact⟨x,v,rfl,i,k _ _ H1 q t1 k1 (bP c)⟩
end
section
variable {X:Cx}{α:Ev}{p pos:Pos}{a b:Expr}{g:Str}{Q:PyData->Prop}
def rR :List (PyData×PyData)->Str->Option PyData
 |[],_=>none
 |(.str y,d)::r,x=>if y=x then some d else rR r x
 |_::r,x=>rR r x
theorem zg4 (h0:Heap){v:V}{d:PyData}{u:Value}(h:scV d=some v)(f:PyProof.V.Flat u d):RelV v u:=by
 have r:=f h0;cases d with
 |none=>cases h;cases r;rfl
 |bool b=>cases h;cases r;rfl
 |int i=>cases h;cases r;exact⟨_,rfl⟩
 |str x=>cases h;cases r;exact⟨_,rfl⟩
 |_=>cases h
theorem eG (h0:Heap){x:Str}{d:PyData}{v:V}(i:scV d=some v){kvs:List (Str×Value)}{D:List (PyData×PyData)}(h:PyProof.V.FlatPairs PyData.str kvs D)(e:rR D x=some d):∃u,valueAt kvs x=some u/\RelV v u:=by
 induction h with
 |nil=>cases e
 |@cons k u d' kvs D f r ih=>
  unfold rR at e;by_cases q:k=x
  ·rw[if_pos q]at e;cases e;exact⟨u,by simp[valueAt,q],zg4 h0 i f⟩
  ·rw[if_neg q]at e;obtain⟨j,l,c⟩:=ih e;refine⟨j,?_,c⟩;rw[<-l];simp[valueAt,z60,q]
theorem bD {keys:List (Option Expr)}{values:List Expr}{D:List (PyData×PyData)}{ty:TE}(hD:litPairs keys values=some D)(G:strKeyed D=true)(M:(strKeysOf D).Nodup)(S:keys.all (·.isSome)=true)(R:keys.length=values.length)(C:keys≠[])(K:keys.length<=15)(hi:PE X a ty)(V:zf4 a):
  PE X (.Subscript (.Dict keys values p) a pos) (λσ H Q=>ty σ H λy H1=>∃x d v,y=.str x/\rR D x=some d/\scV d=some v/\Q v H1):=by
 intro pins s σ H Q I h;refine zS4 yd9.lookup V (Dict_lits_str hD G M S R C K λad o c tk hsz P tab kp=>?_);obtain⟨kvs,i,fl⟩:=tab;have A:Inv X pins σ H {s with heap:=c,toks:=tk}:=I.kept kp;have f:∀v,o.data≠.cell v:=λv z=>by
  obtain⟨n,m,_,e,_⟩:=i;rw[e]at z;cases z
 have l:Inv X ((ad,o)::pins) σ H {s with heap:=c,toks:=tk}:=A.pins_of λq hq=>by
  rcases zY4.mp hq with rfl|hq
  ·exact⟨P,I.hok.fresh hsz,λz=>absurd I.lt (by rw[<-z];exact Nat.not_lt.mpr hsz),I.nofs hsz,f⟩
  ·exact A.pin q (by first|exact hq|exact z05 _ hq|exact z41 _ hq)
 refine thn (hi _ _ σ H _ l h) λW s2 j=>?_;obtain⟨y,r,k,E,x,d,v,O,ex,T,B⟩:=j;subst O;obtain⟨t,rfl⟩:=E;have J:=k.pin (ad,o) (by first|exact zY9|exact z05 _ zY9|exact z41 _ zY9);obtain⟨n,m,a1,a2,N,L,F⟩:=i;have dd:s2.heap.DictOf (PySem.strKind X.prog X.w) ad kvs:=⟨o,n,m,J.1,a1,a2,N,L,F⟩;obtain⟨u,g1,g2⟩:=eG s.heap T fl ex;have U:Inv X pins σ r s2:=k.pins_of λq hq=>k.pin q (by rcases z01.mp (z05 X.pn hq)with z|z;exact z41 _ z;exact z05 _ (zY6 _ z));exact⟨dd.typeIs,wpAny_getItem_of (show(PySem.strKind X.prog X.w).is x (.str x t)=true by simp[PySem.strKind,Value.isStrOf]) dd.mapOf g1 ⟨v,r,U.tok _,g2,B⟩⟩
theorem dP {keys:List (Option Expr)}{values:List Expr}{D:List (PyData×PyData)}(hD:litPairs keys values=some D)(j:strKeyed D=true)(c:(strKeysOf D).Nodup)(h:EvD X α a λy=>∃x d v,y=.str x/\rR D x=some d/\scV d=some v/\Q d)
  (n:keys.all (·.isSome)=true:=by rfl) (l:keys.length=values.length:=by rfl) (i:keys≠[]:=by exact List.cons_ne_nil _ _) (o:keys.length<=15:=by decide) (r:zf4 a:=by exact λ_ _=>rfl):EvD X α (.Subscript (.Dict keys values p) a pos) Q:=λF σ H R m k=>by
 refine⟨_,bD hD j c n l i o zg r,?_⟩;refine h F σ H _ m λy s H1 e t1 k1 f=>?_;obtain⟨x,d,v,rfl,g1,g2,q⟩:=e;cases f.str_inv;exact⟨x,d,v,rfl,g1,g2,k _ _ H1 q t1 k1 (bP g2)⟩
def sR :PyData->Bool
 |.none=>true
 |.bool _=>true
 |.int _=>true
 |.str _=>true
 |_=>false
theorem ir {H:Hp}{v:V}{d:PyData}(h:AV H v d)(f:sR d=true):vK v=true/\scV d=some v:=by
 cases h<;>first|exact⟨rfl,rfl⟩|cases f
theorem zc2 {H:Hp}{xs:List V}{ds:List PyData}(h:AVs H xs ds)(f:ds.all sR=true):xs.all vK=true/\ds.map scV=xs.map some:=by
 induction h using AVs.ind with
 |nil=>exact⟨rfl,rfl⟩
 |cons h _ i=>
  rw[yi6,z21]at f;obtain⟨e,c⟩:=ir h f.1;obtain⟨j,d⟩:=i f.2;exact⟨by rw[yi6,e,j];rfl,by rw[z03,z03,c,d]⟩
def inD (x:PyData)(ds:List PyData):Bool:=ds.any λy=>match scV y,scV x with
 |some u,some v=>eqV u v
 |_,_=>false
theorem gc {v:V}{x:PyData}(f:scV x=some v):∀{xs:List V}{ds:List PyData},ds.map scV=xs.map some->inV v xs=inD x ds
 |[],[],_=>rfl
 |[],_::_,e=>by cases e
 |_::_,[],e=>by cases e
 |u::xs,d::ds,e=>by
  rw[z03,z03]at e;injection e with e1 h;have c:=gc f h;unfold inV inD at c ⊢;rw[z83,z83,c,e1,f]
theorem dh {neg:Bool}{x:PyData}{ds:List PyData}(c:sR x=true)(fs:ds.all sR=true):Cmp (rIn X.K neg) x (.list ds) (if neg then !inD x ds else inD x ds):=λp H f i R e d h=>by
 obtain⟨ad,xs,rfl,g1,g2⟩:=d.lst_inv;obtain⟨f1,s1⟩:=ir e c;obtain⟨f2,s2⟩:=zc2 g2 fs;refine⟨ad,xs,rfl,.inl (SqL.of (zb g1).2),f1,f2,?_⟩;rw[gc s1 s2];exact h
end
section
variable {X:Cx}{α:Ev}{p pos:Pos}{a b:Expr}{Q:PyData->Prop}
end
section
variable {X:Cx}{α:Ev}{a e:Expr}{pos p2 p3 p4:Pos}{n1:Nat}{te:TE}
end
def zd6 (T:Addr)(H:Hp):Prop:=∀b:Addr,H b=none\/b=T\/∃o xs,H b=some (.frz o (.lst xs))
theorem eO {P:Program}{w:World}{K:PySem.W.Frag}{mg mb:Str->Option Value}{CX:CXT}{k:Nat}{fa a T:Addr}{fd:FuncData}{x:Str}{sp:Sp}{c:Shared}{vs:List Value}{ns:List Int}{ps:Array Value}
  (KX:K.In c.heap) (t:c.heap.Ns mainGlobals mg) (hb:c.heap.Ns builtinsNs mb) (M:∀x:Str,x≠"__name__"->mb x=bootBuiltins x) (E:c.heap.NoLimit) (hg:c.gens=#[])
  (ha:c.heap.get? a=some {cls:=.type "list",data:=.seq vs.toArray}) (hi:IntsAre vs ns) (hl:ns.length<=sizeLine) (hr:zG k callerA)
  (hT:c.heap.get? T=some (PySem.W.tabObj ps)) (S:K.lookup T=none) (L:isCodeTable c.heap T)
  (U:∃bm ob,mg "__builtins__"=some (.ref bm)/\bm≠builtinsNs/\c.heap.get? bm=some ob/\ob.cls=.type "module"/\ob.dict=some builtinsNs/\ob.data=.plain)
  (F:∀base:Heap,K.In base->base.Ns mainGlobals mg->base.BuiltinsAt mg T->yn P w K mg base CX k fa fd [x] sp) (B:∀(s:Shared) (u:Value),BindsTo s fd ⟨[u],[]⟩ [(x,u)])
  (X:∀H:Hp,zd6 T H->H T=some (.tbl ps)->SqL K H a (ns.map V.int)->sp [.ref a] H (λv _=>v=.bl true) λ_ _ _=>False)
  (Y:∀H e s',CX [] H c (λ_ _ _=>False) e s'->False):
  codeAny (model P w) callerA (.call (.ref fa) ⟨[.ref a],[]⟩) (λr s'=>r=.ok (.ret (.bool true))/\OldK c.heap s'.heap/\s'.os=c.os/\AllBare s'.gens) c:=by
 have rv:=fv hi;have C:=hi.length;have I:a≠T:=λz=>by rw[z,hT]at ha;cases ha
 have core:∀H:Hp,zd6 T H->H T=some (.tbl ps)->SqL K H a (ns.map V.int)->HOk P w H c.heap->(∀b,H b≠none->b=a\/b=T)->(H a≠none->K.lookup a=none)->
   codeAny (model P w) callerA (.call (.ref fa) ⟨[.ref a],[]⟩) (λr s'=>r=.ok (.ret (.bool true))/\OldK c.heap s'.heap/\s'.os=c.os/\AllBare s'.gens) c:=by
  intro H hO G hS hok Z hK;have f:∀{b:Addr} {o:Obj},c.heap.get? b=some o->H b=none->(qg c.heap H).get? b=some o:=λe n=>bY e n;have N:∀{b:Addr} {o:Obj} {p:Array DictEntry} {A:Nat},c.heap.get? b=some o->o.data=.dict p A->H b=none:=λ{b o p A} e d=>by
   cases q:H b with
   |none=>rfl
   |some u=>
    rcases Z b (by rw[q];simp)with g|g
    ·subst g;rw[ha]at e;cases e;have d':Data.seq vs.toArray _=Data.dict p A:=d;cases d'
    ·subst g;rw[hT]at e;cases e;have d':Data.fields ps=Data.dict p A:=d;cases d'
  have j:∀{b:Addr} {m:Str->Option Value},c.heap.Ns b m->(qg c.heap H).Ns b m:=λ{b m} O=>by obtain⟨o,p,A,e,d,r⟩:=O;exact⟨o,p,A,f e (N e d),d,r⟩
  have D:K.In (qg c.heap H):=λb o e=>f (KX b o e) (by
   cases q:H b with
   |none=>rfl
   |some u=>
    rcases Z b (by rw[q];simp)with g|g
    ·subst g;rw[hK (by rw[q];simp)]at e;cases e
    ·subst g;rw[S]at e;cases e)
  have hM:Mod K mg (qg c.heap H):=⟨D,j t,⟨mb,j hb,M⟩,let⟨mc,h1,h2⟩:=E;⟨mc,j h1,h2⟩⟩;have R:(qg c.heap H).BuiltinsAt mg T:=by
   obtain⟨bm,ob,b1,b2,y,b4,b5,J⟩:=U;have n1:bm≠T:=λz=>by rw[z,hT]at y;cases y;cases b4
   have n2:bm≠a:=λz=>by rw[z,ha]at y;cases y;cases J
   have n3:bm≠mainGlobals:=λz=>by
    obtain⟨o,p,A,e,d,_⟩:=t;rw[z,e]at y;cases y;rw[d]at J;cases J
   exact⟨bm,ob,b1,b2,n3,n1,f y (by
    cases q:H bm with
    |none=>rfl
    |some u=>
          rcases Z bm (by rw[q];simp)with g|g
          ·exact absurd g n2
          ·exact absurd g n1),b4,b5,J⟩
  have e0:uV P w K mg (qg c.heap H) callerA [] c H:=⟨rfl,hM,λb o e=>zn5 e,zZ5 (gX _ _),trivial,λb hb=>absurd (show b∈([]:List Addr)from hb) (by simp),hok,.of_eq hg⟩;refine yb9 ((F _ D (j t) R).run callerA [] c H ⟨[.ref a],[]⟩ [.ref a] [.ref a] _ _ hr e0 (B c (.ref a)) (.cons rfl .nil) (X H hO G hS)) λr s' h=>?_;cases r with
  |error e=>exact(Y H e s' h).elim
  |ok fl=>
   cases fl with
   |next=>exact False.elim h
   |brk=>exact False.elim h
   |cont=>exact False.elim h
   |ret u=>
    obtain⟨v,H',os,bare,un,l,r',q⟩:=h;have q':v=.bl true:=q;subst q';obtain rfl:u=Value.bool true:=r';have old:∀b o,c.heap.get? b=some o->asItWas c.heap s'.heap b o:=λb o e=>by
     cases q:H b with
     |none=>exact .inl (un.keep b o e q (by intro z;exact absurd (show b∈([]:List Addr)from z) (by simp)) (by simp))
     |some u=>
      rcases hO b with z|z|⟨ob,xs,z⟩
      ·rw[q]at z;cases z
      ·subst z;obtain⟨more,hm⟩:=un.tbls _ _ G;have Q:s'.heap.get? b=some {cls:=.none,data:=.fields (ps++more)}:=l _ _ hm;rw[hT]at e;cases e;exact .inr (.inl ⟨L,rfl,ps,more,rfl,Q⟩)
      ·have z2:=un.frzs b ob _ z;obtain⟨e1,_⟩:=hok b _ z;obtain⟨Q,_⟩:=l b _ z2;rw[e]at e1;cases e1;exact .inl Q
    refine⟨rfl,⟨old,λb o e=>?_⟩,os,bare⟩;rcases old b o e with z|⟨_,_,_,_,_,z⟩|⟨_,_,⟨o',_,_,z,_⟩,_⟩
    ·exact⟨_,z⟩
    ·exact⟨_,z⟩
    ·exact⟨_,z⟩
 cases hk:K.lookup a with
 |some o=>
  have e:=KX a o hk;rw[ha]at e;cases e;refine core (λb=>if b=T then some (.tbl ps)else none) (λb=>?_) (if_pos rfl) (.inr ⟨_,vs.toArray,_,hk,rfl,rfl,rfl,by rw[zZ0,C];exact hl,by simpa using rv⟩) (λb u z=>?_) (λb z=>?_) λz=>absurd (if_neg I) z
  ·by_cases h:b=T
   ·exact .inr (.inl h)
   ·exact .inl (if_neg h)
  ·by_cases h:b=T
   ·have i:=(if_pos h).symm.trans z;cases i;subst h;exact hT
   ·have i:=(if_neg h).symm.trans z;cases i
  ·by_cases h:b=T
   ·exact .inr h
   ·exact absurd (if_neg h) z
 |none=>
  refine core (λb=>if b=T then some (.tbl ps)else if b=a then some (.frz {cls:=.type "list",data:=.seq vs.toArray} (.lst (ns.map V.int)))else none) (λb=>?_) (if_pos rfl) (.inl (.inr ⟨{cls:=.type "list",data:=.seq vs.toArray},(if_neg I).trans (if_pos rfl)⟩)) (λb u z=>?_) (λb z=>?_) λ_=>hk
  ·by_cases h:b=T
   ·exact .inr (.inl h)
   ·by_cases hb:b=a
    ·exact .inr (.inr ⟨_,_,(if_neg h).trans (if_pos hb)⟩)
    ·exact .inl ((if_neg h).trans (if_neg hb))
  ·by_cases h:b=T
   ·have i:=(if_pos h).symm.trans z;cases i;subst h;exact hT
   ·have z:=(if_neg h).symm.trans z;by_cases hb:b=a
    ·have i:=(if_pos hb).symm.trans z;cases i;subst hb;exact⟨ha,by rw[zX7];exact hl,vs,_,rv,ha⟩
    ·have i:=(if_neg hb).symm.trans z;cases i
  ·by_cases h:b=T
   ·exact .inr h
   ·by_cases hb:b=a
    ·exact .inl hb
    ·exact absurd ((if_neg h).trans (if_neg hb)) z
theorem cR {l:PySem.W.OpenLaw}{n k:Nat}{q:Program}{loose:List Str}{E:(Str->Option Value)->Heap->Prop}{D:World->Heap->Prop}{d:DefRec}{K:Params->PySem.W.Frag}{CX:World->CXT}{sp:World->Sp}{x:Str}{T c:Addr}{ps:Array Value}
  (hn:l.most=some n) (t:n<=sizeLine) (hdf:d.params.defaults=[]) (hr:zG k callerA)
  (O:∀(w:World) (h:Heap),D w h->(K w.params).In h) (z:∀(w:World) (h:Heap),D w h->h.get? T=some (PySem.W.tabObj ps))
  (y:∀w:World,(K w.params).lookup T=none) (i:∀w:World,∃o vs,(K w.params).lookup c=some o/\o.cls=.type "code"/\o.data=.fields vs/\vs[11]?=some (.ref T))
  (F:∀(w:World) (mg:Str->Option Value) (p:Addr) (h:Heap),(K w.params).In h->h.Ns mainGlobals mg->mg d.name=some (.ref p)->
   ∃fd:FuncData,(∀(s:Shared) (u:Value),BindsTo s fd ⟨[u],[]⟩ [(x,u)])/\
    ∀base:Heap,(K w.params).In base->base.Ns mainGlobals mg->base.BuiltinsAt mg T->yn l.prog w (K w.params) mg base (CX w) k p fd [x] (sp w))
  (B:∀(w:World) (H:Hp) (a:Addr) (ns:List Int),ns.length<=n->zd6 T H->H T=some (.tbl ps)->SqL (K w.params) H a (ns.map V.int)->sp w [.ref a] H (λv _=>v=.bl true) λ_ _ _=>False)
  (C:∀(w:World) (H:Hp) (s:Shared) (e:Value) (s':Shared),CX w [] H s (λ_ _ _=>False) e s'->False):
  PySem.W.WalkO q loose E D l.row.toRowW d [] (λf vs=>PySem.call f vs):=by
 refine Att.attach_call hn hdf λw s₀ j mg mb p o pm cd doc a vs ns G Y P hd N r m hints hlen hg=>?_;have A:=O w _ Y;obtain⟨oc,cv,t2,t3,I,L⟩:=i w;obtain⟨fd,hb,hF⟩:=F w mg p _ A G.T.g r;exact eO A G.T.g G.T.b G.T.builtins G.T.nolimit hg m hints (zY8 hlen t) hr (z w _ Y) (y w) ⟨c,oc,cv,A _ _ t2,t3,I,L⟩ G.T.bmain hF hb (λH J hT M=>B w H a ns hlen J hT M) λH e s'=>C w H j e s'
theorem TabAt.same {H H':Hp}(T:TabAt H)(h:∀a o,(∀xs,o≠.lst xs)->H a=some o->H' a=some o):TabAt H':=rj T h
section
variable {X:Cx}{pins:List (Addr×Obj)}{σ:St}{H:Hp}{s:Shared}{h':Heap}
theorem Inv.tblMore {t':Nat}{p:Addr}{ps more:Array Value}{H':Hp}(I:Inv X pins σ H s)(h:H p=some (.tbl ps))(k:∀b u,b≠p->s.heap.get? b=some u->h'.get? b=some u)(e:h'.get? p=some (PySem.W.tabObj (ps++more)))
  (g:H' p=some (.tbl (ps++more))) (d:∀b,b≠p->b<s.heap.objs.size->H' b=H b) (new:∀b o,s.heap.objs.size<=b->H' b=some o->zA X.prog X.w H' h' b o):
  Inv X pins σ H' {s with heap:=h',toks:=t'}:=by
 have ne:∀b,H b=none->b≠p:=λb n z=>by rw[z,h]at n;cases n
 have nt:∀b o,H b=some o->(∀f,o≠.tbl f)->b≠p:=λb o q n z=>by rw[z,h]at q;cases q;exact n _ rfl
 have lt:∀b o,H b=some o->b<s.heap.objs.size:=λb o q=>by
  rcases z97 b s.heap.objs.size with z|z
  ·exact z
  ·rw[I.hok.fresh z]at q;cases q
 have st:∀b o,H b=some o->(∀f,o≠.tbl f)->H' b=some o:=λb o q n=>by rw[d b (nt b o q n) (lt b o q)];exact q
 refine I.un ⟨λb o q n _ _=>k b o (ne b n) q,λb o q n _ _=>⟨o.slots,k b o (ne b n) q⟩,λb o q n _=>by rw[d b (ne b n) (zY5 q)];exact n,λb o q _=>?_,λb xs q=>st b _ q (λ_ z=>by cases z),λb o u q=>st b _ q (λ_ z=>by cases z),λb f q=>?_⟩ λb u q=>?_
 ·by_cases z:b=p
  ·exact⟨_,by rw[z];exact e⟩
  ·exact⟨o,k b o z q⟩
 ·by_cases z:b=p
  ·subst z;rw[h]at q;cases q;exact⟨more,g⟩
  ·exact⟨#[],by rw[d b z (lt b _ q),q];simp⟩
 ·by_cases z:b=p
  ·subst z;rw[g]at q;cases q;exact e
  ·rcases z97 b s.heap.objs.size with l|l
   ·rw[d b z l]at q;refine(I.hok b u q).stay (λc v a r=>k c v (λw=>?_) r) (λc r=>st c _ r λ_ z=>by cases z) λc xs r=>st c _ r λ_ z=>by cases z
    subst w;rcases a with rfl|a
    ·exact z rfl
    ·rw[h]at a;cases a
   ·exact new b u l q
def kE (f c:Addr)(qual:Str)(params:Arguments)(body:Expr)(scope:Scope)(a:List (Str×Addr)):HO:=
 .ext λh=>∃(pm ctv:Value),h.get? f=some (PySem.W.kla_obj "<lambda>" qual params body scope a pm c ctv)
theorem zk4 {P:Program}{w:World}{H:Hp}{h:Heap}{c:Addr}(r:h.CodeRec (.ref c) xG):zA P w H h c (tG c):=by
 refine⟨r,?_,λe d p k=>?_⟩
 ·obtain⟨c',o,vs,t,e1,a,_⟩:=r;cases e1;exact⟨o,a⟩
 ·obtain⟨c',o,vs,t,e1,a,b⟩:=p;cases e1;exact⟨c,o,vs,t,rfl,k _ a,b⟩
theorem aI {P:Program}{w:World}{H:Hp}{h:Heap}{f c:Addr}{qual:Str}{params:Arguments}{body:Expr}{scope:Scope}{a:List (Str×Addr)}{pm ctv:Value}(r:h.get? f=some (PySem.W.kla_obj "<lambda>" qual params body scope a pm c ctv)):zA P w H h f (kE f c qual params body scope a):=
 ⟨⟨pm,ctv,r⟩,⟨_,r⟩,λi g e k=>by obtain⟨d,b,p⟩:=e;exact⟨d,b,k _ p⟩⟩
theorem jb {pos:Pos}{a b:Int}{c cv:Value}(l:List Value):TriplesOk l->codeAmong pos (l++[rawInt a,rawInt b,c])=some cv->codeAmong pos l=some cv\/cv=c:=by
 induction l using TriplesOk.induct with
 |case1=>
  intro _ h;rw[z37,rawInt,rawInt,codeAmong.eq_1]at h;split at h
  ·cases h;exact .inr rfl
  ·rw[codeAmong.eq_2 _ _ (by intro _ _ _ _ _ _ z;cases z)]at h;cases h
 |case2 i t j u d rest g=>
  intro ok h;rw[TriplesOk.eq_2]at ok;rw[yc9,yc9,yc9,codeAmong.eq_1]at h;rw[codeAmong.eq_1];split at h
  ·rename_i z;rw[if_pos z];exact .inl h
  ·rename_i z;rw[if_neg z];exact g ok h
 |case3 t f e=>
  intro ok;rw[TriplesOk.eq_3 t f e]at ok;exact ok.elim
theorem zf7 {params:Arguments}{body:Expr}{scope:Scope}{i:Pos}{g:List (Str×Addr)}{c:Addr}(I:Inv X pins σ H s)(hcl:closureFor scope X.env=pure g)(hgl:X.env.globals=mainGlobals)(hco:X.env.code=.ref c)(hhd:PySem.W.CodeHd X.base c yi)
  (hbi:X.base.BuiltinsAt X.mg yi) (hdf:defaultsOf params X.env=([],[])) (hq:X.env.qual++("<lambda>":Str)=xG) (hne:mainGlobals≠yi) (T:TabAt H) {Q:Value->Shared->Prop}
  (h:∀(f c':Addr) (H':Hp) (s':Shared),Inv X pins σ H' s'->TabAt H'->(∀a o,a≠yi->H a=some o->H' a=some o)->(∀a ps,H a=some (.tbl ps)->∃y,H' a=some (.tbl y))->H f=none->H' f=some (kE f c' xG params body scope g)->H' c'=some (tG c')->Q (.ref f) s'):
  wpAny (model X.prog X.w) X.A (eval (.Lambda params body scope i) X.env) Q X.xe s:=by
 refine PySem.W.kla_eval hdf ?_;rw[hq];obtain⟨ps,t1,t2,t3⟩:=T.ex;have hT:s.heap.get? yi=some (PySem.W.tabObj ps):=I.hok _ _ t1;have hb:∀b o,X.base.get? b=some o->s.heap.get? b=some o:=λb o e=>(I.bs b o e).1;have m:PySem.W.CodeHd s.heap c yi:=by
  obtain⟨o,vs,f1,f2,f3,f4,U,f6,P,e1,j⟩:=hhd;exact⟨o,vs,f1,f2,f3,f4,U,f6,P,hb _ _ e1,j⟩
 have p:s.heap.BuiltinsAt X.mg yi:=by
  obtain⟨bm,o,e1,j,E,N,e5,e6⟩:=hbi;exact⟨bm,o,e1,j,E,N,hb _ _ e5,e6⟩
 have x:s.heap.Ns mainGlobals X.mg:=by
  obtain⟨o,R,Y,e,d,r⟩:=I.ok.mod.glob;exact⟨o,R,Y,hb _ _ e,d,r⟩
 cases hc:codeAmong i ps.toList with
 |none=>
  refine PySem.W.kla_makeFunction hcl hgl x hco m hT t2 hc hne p λc' ctv h' tk ex l1 l2 cr O=>?_;have Z:c'<(h'.push (PySem.W.kla_obj "<lambda>" xG params body scope g ((X.mg "__name__").getD Value.none) c' ctv)).objs.size:=by rw[size_push'];exact zX8 l2 (zZ3 _ _)
  have n1:(c':Addr)≠h'.objs.size:=zZ7 l2;have q:yi<s.heap.objs.size:=zY5 hT;have n2:(c':Addr)≠yi:=z71 (zX8 q l1);have lf:s.heap.objs.size<=h'.objs.size:=z36 (z02 l1 l2);have n3:(h'.objs.size:Addr)≠yi:=z71 (zX8 q lf)
  let n:Hp:=upd (upd (upd H h'.objs.size (kE h'.objs.size c' xG params body scope g)) c' (tG c')) yi (.tbl (ps++#[rawInt ↑i.line,rawInt ↑i.col,Value.ref c']))
  have C:n yi=some (.tbl (ps++#[rawInt ↑i.line,rawInt ↑i.col,Value.ref c'])):=zf;have eC:n c'=some (tG c'):=by show upd _ _ _ _=_;rw[zc n2,zf]
  have K:n h'.objs.size=some (kE h'.objs.size c' xG params body scope g):=by show upd _ _ _ _=_;rw[zc n3,zc n1.symm,zf]
  have old:∀b,b≠yi->b<s.heap.objs.size->n b=H b:=λb nb v=>by
   show upd _ _ _ _=_;rw[zc nb,zc (zZ7 (zX8 v l1)),zc (zZ7 (zX8 v lf))]
  have D:Inv X pins σ n {s with heap:=h'.push (PySem.W.kla_obj "<lambda>" xG params body scope g ((X.mg "__name__").getD Value.none) c' ctv),toks:=tk}:=by
   refine I.tblMore (more:=#[rawInt ↑i.line,rawInt ↑i.col,Value.ref c']) t1 (λb u nb e=>zX6 _ (ex b u nb e)) (zX6 _ O) C old λb o v e=>?_;by_cases G:b=h'.objs.size
   ·subst G;rw[K]at e;cases e;exact aI (zY7 _ rfl)
   ·by_cases F:b=c'
    ·subst F;rw[eC]at e;cases e;obtain⟨M,o,vs,t,e1,j,E⟩:=cr;cases e1;exact zk4 ⟨_,o,vs,t,rfl,zX6 _ j,E⟩
    ·have nb:b≠yi:=λz=>absurd v (Nat.not_le_of_lt (z▸q));have S:n b=H b:=by show upd _ _ _ _=_;rw[zc nb,zc F,zc G]
     rw[S,I.hok.fresh v]at e;cases e
  have stay:∀a o,a≠yi->H a=some o->n a=some o:=λa o no e=>by
   have V:a<s.heap.objs.size:=by
    rcases z97 a s.heap.objs.size with z|z
    ·exact z
    ·rw[I.hok.fresh z]at e;cases e
   rw[old a no V];exact e
  refine h _ c' n _ D ⟨_,C,?_,λpos cv B=>?_⟩ stay (λa y e=>?_) (I.hok.fresh lf) K eC
  ·rw[Array.toList_append];exact TriplesOk_snoc _ _ _ _ t2
  ·rw[Array.toList_append]at B;rcases jb _ t2 B with z|z
   ·obtain⟨M,rfl,j⟩:=t3 _ _ z;exact⟨M,rfl,stay _ _ (λz=>by rw[z,t1]at j;cases j) j⟩
   ·exact⟨c',z,eC⟩
  ·by_cases J:a=yi
   ·exact⟨_,by rw[J];exact C⟩
   ·refine⟨y,?_⟩;rw[old a J (by
     rcases z97 a s.heap.objs.size with z|z
     ·exact z
     ·rw[I.hok.fresh z]at e;cases e)]
    exact e
 |some cv=>
  obtain⟨c',rfl,L⟩:=t3 _ _ hc;refine PySem.W.kla_makeFunctionHit hcl hgl x hco m hT t2 hc p λctv h' tk k l=>?_;have hf:H h'.objs.size=none:=I.hok.fresh l;have k2:∀b u,s.heap.get? b=some u->(h'.push (PySem.W.kla_obj "<lambda>" xG params body scope g ((X.mg "__name__").getD Value.none) c' ctv)).get? b=some u:=λb u e=>zX6 _ (k b u e);have D:=I.laid (t':=tk) (o:=kE h'.objs.size c' xG params body scope g) k2 l (aI (zY7 _ rfl));have n1:∀a o,H a=some o->a≠h'.objs.size:=λa o e z=>by rw[z,hf]at e;cases e
  refine h _ c' _ _ D (T.same λa o _ e=>by rw[zc (n1 a o e)];exact e) (λa o _ e=>by rw[zc (n1 a o e)];exact e) (λa y e=>⟨y,by rw[zc (n1 a _ e)];exact e⟩) hf zf ?_;rw[zc (n1 _ _ L)];exact L
end
structure wj (x y:Str)(params:Arguments)(scope:Scope):Prop where
 kind:scope.kind=.function
 co:scope.isCoroutine=false
 gen:scope.isGenerator=false
 px:scope.names.lookup x=some .local
 py:scope.names.lookup y=some .free
 nocell:∀z∈scope.names,z.2≠NameKind.cell
 only:∀z∈scope.names,z.2=NameKind.free->z.1=y
 ne:x≠y
def lr (P:Program)(w:World)(K:PySem.W.Frag)(mg:Str->Option Value)(base:Heap)(x y:Str)(scope:Scope)(f c cl:Addr)(A:Around)(outer:List Env)(s:Shared)(H:Hp):Cx where
 prog:=P
 w:=w
 K:=K
 mg:=mg
 base:=base
 A:=A.deeper (PySem.W.envX xG scope s.heap.objs.size f (.ref c) [(y,cl)])
 N:=[x,y]
 s₀:=s
 H₀:=H
 env:=PySem.W.envX xG scope s.heap.objs.size f (.ref c) [(y,cl)]
 outer:=outer
 stack:=PySem.W.envX xG scope s.heap.objs.size f (.ref c) [(y,cl)]::outer
 ex:=[]
 calm:=true
 fn:=λ_=>false
 pn:=[]
 xe:=λ_ _=>False
theorem gD {P:Program}{w:World}{K:PySem.W.Frag}{mg:Str->Option Value}{base:Heap}{x y:Str}{params:Arguments}{scope:Scope}{f c cl:Addr}{A:Around}{outer:List Env}{s:Shared}{H:Hp}{h':Heap}{tk:Nat}{v l:V}{u ul:Value}
  (S:wj x y params scope) (hd:A.handled=none) (m:uV P w K mg base A outer s H) (t:RelV v u) (B:RelV l ul) (hcl:s.heap.IsCell cl (some ul)) (r:H cl=none)
  (ns:h'.Ns s.heap.objs.size λz=>[(x,u)].reverse.lookup z) (k:∀b o,s.heap.get? b=some o->h'.get? b=some o):
  Inv (lr P w K mg base x y scope f c cl A outer s H) [] [some v,some l] H {s with heap:=h',toks:=tk}:=by
 have q:∀b:Addr,b∉(lr P w K mg base x y scope f c cl A outer s H).ex:=λb z=>absurd (show b∈([]:List Addr)from z) (by simp);have one:∀z d,(lr P w K mg base x y scope f c cl A outer s H).env.cells.lookup z=some d->z=y/\d=cl:=λz d h=>by
  have h:List.lookup z [(y,cl)]=some d:=h;rw[z42]at h;split at h
  ·rename_i e;cases h;exact⟨eq_of_beq e,rfl⟩
  ·cases h
 have hit:(lr P w K mg base x y scope f c cl A outer s H).env.cells.lookup y=some cl:=by
  show List.lookup y [(y,cl)]=some cl;simp[z42]
 have j:h'.IsCell cl (some ul):=by
  obtain⟨o,e1,D⟩:=hcl;exact⟨o,k _ _ e1,D⟩
 refine⟨⟨m.mod,S.kind,rfl,rfl,zY1 _,λa b d g n=>(one a d g).1.trans (one b d n).1.symm,λz hz=>?_,λz d hf _=>?_,λ_=>hd,Around.frames_deeper m.frames,.inr ⟨rfl,rfl⟩,λb z=>absurd z (q b),m.bs,m.bsz,λb _ _=>q b,λb z=>absurd z (q b),m.funs,m.frf⟩,
  rfl,m.bare,Un.kept k,⟨_,ns,λi z E g n F=>?_⟩,λz d h=>?_,m.hok.fresh (zY1 _),λz d h=>?_,λp C=>absurd (show p∈([]:List (Addr×Obj))from C) (by simp),m.hok.kept k,rfl⟩
 ·have hz:scope.names.lookup z=some .cell\/scope.names.lookup z=some .free:=hz;rcases hz with hz|hz
  ·exact absurd rfl (S.nocell _ (z47 hz))
  ·have:z=y:=S.only _ (z47 hz) rfl;subst this;exact⟨cl,hit⟩
 ·exact absurd (show false=true from hf) z04
 ·have g:([x,y]:List Str)[i]?=some z:=g
  match i,g,n with
  |0,g,n=>
   cases g;cases n;exact⟨u,t,.inl ⟨S.px,by simp[z42]⟩⟩
  |1,g,n=>
   cases g;cases n;exact⟨ul,B,.inr ⟨.inr S.py,cl,hit,j⟩⟩
  |i+2,g,n=>simp at g
 ·obtain⟨rfl,rfl⟩:=one z d h;exact⟨_,j⟩
 ·obtain⟨rfl,rfl⟩:=one z d h;exact r
theorem zo3 {P:Program}{w:World}{K:PySem.W.Frag}{mg:Str->Option Value}{base:Heap}{x y:Str}{params:Arguments}{body:Expr}{scope:Scope}{f c cl:Addr}{A:Around}{outer:List Env}{s:Shared}{H:Hp}{v l:V}{u ul:Value}{k:Nat}{Q:VK}{t:TE}
  (S:wj x y params scope) (hr:zG k A) (a:uV P w K mg base A outer s H) (hf:H f=some (kE f c xG params body scope [(y,cl)])) (r:H c=some (tG c)) (hcl:s.heap.IsCell cl (some ul)) (d:H cl=none) (j:RelV v u) (n:RelV l ul)
  (hb:∀pm ctv,bindArgs (PySem.W.kla_fn "<lambda>" xG params body scope [(y,cl)] pm (.ref c) ctv) ⟨[u],[]⟩=pure [(x,u)])
  (m:PE (lr P w K mg base x y scope f c cl A outer s H) body t) (hq:t [some v,some l] H Q):
  codeAny (model P w) A (.call (.ref f) ⟨[u],[]⟩) (CR CX0 outer P w H s Q E0) s:=by
 obtain⟨⟨pm,ctv,B⟩,_,_⟩:=a.hok _ _ hf;have cr:s.heap.CodeRec (.ref c) xG:=(a.hok _ _ r).1;have lim:s.heap.NoLimit:=a.mod.nolimit.keeps λb o e=>(a.bs b o e).1;refine PySem.W.kla_callFunE hr.depth B rfl S.co S.gen rfl cr ?_;rw[hb];refine zY3 ?_;refine wpAny_newFunctionEnv S.nocell (λz hz=>?_) (λh' ns i=>?_) S.kind
 ·rw[zY2.mp hz];exact S.px
 ·have h:∀b o,s.heap.get? b=some o->h'.get? b=some o:=λb o e=>i.extBut b o (zZ7 (zY5 e)) (zX6 _ e);refine⟨lim.keeps h,PySem.W.kla_codeExpr ?_⟩;have I:=gD (tk:=s.toks+[(x,u)].length) (f:=f) (c:=c) S hr.hd a j n hcl d ns h;refine z26 (m [] _ _ H _ I hq) (λD s' g=>?_) λe s' g=>g.elim;obtain⟨p,H',J,C,q⟩:=g;exact⟨p,H',J.os,J.bare,J.base,J.hok,C,q⟩
open PySem.W SortA
section
variable {X:Cx}{pins:List (Addr×Obj)}{σ:St}{H:Hp}{s:Shared}
def cS (X:Cx)(H1 a:Hp)(s1 s2:Shared):Prop:=∀b o,s1.heap.get? b=some o->H1 b=none->b∉frs X.stack->s2.heap.get? b=some o/\a b=none
structure zd9 (X:Cx)(pins:List (Addr×Obj))(σ:St)(H:Hp)(D kS:Addr)(e1:Nat)(ps:List (Int×Int))(i:Nat)(s':Shared):Prop where
 ex:∃(H':Hp) (ks:List Value) (xs:List V) (e:Nat),Inv X pins σ H' s'/\(∀a o,H a=some o->H' a=some o)/\s'.heap.get? D=some (seqObj "list" #[] e1)/\s'.heap.get? kS=some (seqObj "list" ks.toArray e)/\H' D=none/\H' kS=none/\Vals xs ks/\PrV H' xs (ps.take i)
theorem fi {A:Around}{E:Value->Shared->Prop}{vs:List Value}{ps:List (Int×Int)}{f D kS:Addr}{e1:Nat}{Q:PUnit->Shared->Prop}(hlen:vs.length=ps.length)(Z:vs.length<64)(L:D∉frs X.stack)(Y:kS∉frs X.stack)(hne:D≠kS)
  (U:∀H',H' kS=none->xi X pins H' kS)
  (d:∀i v,vs[i]?=some v->∀H1 s1,Inv X pins σ H1 s1->(∀a o,H a=some o->H1 a=some o)->
   wpAny (model X.prog X.w) A (call (.ref f) [v]) (λu s2=>∃t c,u=.ref t/\Inv X pins σ c s2/\(∀a o,H1 a=some o->c a=some o)/\c t=some (.tup [.int (at2 ps i).1,.int (at2 ps i).2])/\cS X H1 c s1 s2) (λ_ _=>False) s1)
  (h0:zd9 X pins σ H D kS e1 ps 0 s) (S:∀s',zd9 X pins σ H D kS e1 ps vs.length s'->Q PUnit.unit s'):
  wpAny (model X.prog X.w) A (forIn vs PUnit.unit λx __s=>do
   let __do_lift <-(call (.ref f) [x]).attempt
   match __do_lift with
    |Except.ok k=>do
     Builtin.List.listUpdate (.ref kS) λx=>x.push k
     pure (ForInStep.yield PUnit.unit)
    |Except.error e=>do
     rule "list.sort.key-raised"
     let made <-Builtin.List.listItems (.ref kS)
     Builtin.List.listUpdate (.ref kS) λx=>#[]
     letGo made.toList.reverse [e]
     Builtin.List.listUpdate (Value.ref D) λx=>vs.toArray
     throw e
     pure (ForInStep.yield PUnit.unit)) Q E s:=by
 refine ksk_fold (zd9 X pins σ H D kS e1 ps) vs 0 s h0 (λj x s' K r=>?_) (λs' r=>S s' (by simpa using r));obtain⟨H1,ks,xs,e,P,st,N,W,M,B,I,pr⟩:=r.ex;rw[yh5]at pr ⊢;have h:j<ps.length:=by rw[<-hlen];exact(zX9.mp K).1
 have m:ks.length=j:=by rw[<-I.length,pr.len,z46];lia
 refine zX5 (wpAny_attempt (z26 (d j x K H1 s' P st) (λu s2 T=>?_) λ_ _ z=>z.elim));obtain⟨t,c,rfl,R,l,J,kp⟩:=T;obtain⟨C,F⟩:=kp D _ N M L;obtain⟨g,n⟩:=kp kS _ W B Y;refine zX5 (yb3 g rfl (zY3 ⟨rfl,?_⟩) (by rw[zZ0,m,z29];lia) (by rw[Array.size_push,zZ0,m,z29];lia));obtain⟨y,hk⟩:∃y,(s2.heap.update kS (Obj.mapSeq λx=>x.push (Value.ref t))).get? kS=some (seqObj "list" (ks++[Value.ref t]).toArray y):=by
  have:=z61 g λx=>x.push (Value.ref t);rw[List.push_toArray]at this;exact⟨_,this⟩
 have G:∀b o,b∉[kS]->s2.heap.get? b=some o->(s2.heap.update kS (Obj.mapSeq λx=>x.push (Value.ref t))).get? b=some o:=λb o nb q=>(zZ2 _ _ (z24 (by simpa using nb))).trans q;refine⟨c,ks++[Value.ref t],xs++[V.ref t],y,R.turnL (t':=s2.toks) G (λb hb=>by rw[zY2.mp hb];exact U c n),λa o q=>l a o (st a o q),G D _ (by simpa using hne) C,hk,F,n,I.append (.cons rfl .nil),?_⟩;rw[z45,zY0 h];refine PrV.app (pr.keep λa p q z=>l _ _ z) ?_;have O:at2 ps j=ps[j]:=by unfold at2;rw[z08,zY0 h];rfl
 rw[O]at J;exact .cons J .nil
theorem jy {A:Around}{E:Value->Shared->Prop}{vs:List Value}{ps:List (Int×Int)}{f D:Addr}{n:Nat}{V:PySem.Fin->Shared->Prop}(I:Inv X pins σ H s)(S:s.heap.get? D=some (seqObj "list" vs.toArray n))(hlen:vs.length=ps.length)(l:vs.length<64)(fD:H D=none)
  (nD:D∉frs X.stack) (O:∀H',H' D=none->xi X pins H' D)
  (F:∀i v,vs[i]?=some v->∀H1 s1,Inv X pins σ H1 s1->(∀a o,H a=some o->H1 a=some o)->
   wpAny (model X.prog X.w) A (call (.ref f) [v]) (λu s2=>∃t T,u=.ref t/\Inv X pins σ T s2/\(∀a o,H1 a=some o->T a=some o)/\T t=some (.tup [.int (at2 ps i).1,.int (at2 ps i).2])/\cS X H1 T s1 s2) (λ_ _=>False) s1)
  (h:∀out H' s' c,Srt vs ps out->Inv X pins σ H' s'->(∀a o,H a=some o->H' a=some o)->s'.heap.get? D=some (seqObj "list" out.toArray c)->H' D=none->V (.done (.ret .none)) s'):
  wpAny (model X.prog X.w) A (ksk_tree D (.ref f) false) V E s:=by
 have hD:D<s.heap.objs.size:=zY5 S;have s1:=z81 s.heap D (Obj.mapSeq λ_=>(#[]:Array Value));obtain⟨e1,B⟩:∃e1,(s.heap.update D (Obj.mapSeq λ_=>(#[]:Array Value))).get? D=some (seqObj "list" #[] e1):=⟨_,z61 S λ_=>#[]⟩;have y:(s.heap.update D (Obj.mapSeq λ_=>(#[]:Array Value))).objs.size=s.heap.objs.size:=Heap.size_update _ _ _;unfold ksk_tree;refine zX5 (listItems_at S rfl ?_);refine zX5 (yb3 S rfl ?_ (by rw[zZ0,z29];exact fq l) (zZ4 _));generalize a6:s.heap.update D (Obj.mapSeq λ_=>(#[]:Array Value))=h1 at s1 B y;refine zX5 (seqEpoch_at B rfl ?_);refine zX5 (wpAny_newTuple ?_ (by show vs.length<=_;rw[z29];exact fq l));refine zX5 (wpAny_newList ?_ (zZ4 _));refine z34 ?_;show wpAny (model X.prog X.w) A (ksk_rest D (.ref f) false vs.toArray e1 (.ref (h1.push (seqObj "tuple" vs.toArray 0)).objs.size)) V E {s with heap:=(h1.push (seqObj "tuple" vs.toArray 0)).push (seqObj "list" #[] 0)};have M:(h1.push (seqObj "tuple" vs.toArray 0)).objs.size=s.heap.objs.size+1:=by rw[size_push',y]
 have C:((h1.push (seqObj "tuple" vs.toArray 0)).push (seqObj "list" #[] 0)).get? (h1.push (seqObj "tuple" vs.toArray 0)).objs.size=some (seqObj "list" #[] 0):=zY7 _ rfl;have J:((h1.push (seqObj "tuple" vs.toArray 0)).push (seqObj "list" #[] 0)).get? D=some (seqObj "list" #[] e1):=zX6 _ (zX6 _ B);have k1:∀b o,b∉[D]->s.heap.get? b=some o->((h1.push (seqObj "tuple" vs.toArray 0)).push (seqObj "list" #[] 0)).get? b=some o:=λb o hb e=>
  zX6 _ (zX6 _ ((s1.2 b (by simpa using hb)).trans e))
 have I0:Inv X pins σ H {s with heap:=(h1.push (seqObj "tuple" vs.toArray 0)).push (seqObj "list" #[] 0),toks:=s.toks}:=I.turnL k1 λb hb=>by rw[zY2.mp hb];exact O H fD
 generalize (h1.push (seqObj "tuple" vs.toArray 0)).push (seqObj "list" #[] 0)=U at C J k1 I0;generalize a7:(h1.push (seqObj "tuple" vs.toArray 0)).objs.size=kS at M C;have L:s.heap.objs.size<=kS:=by rw[M];exact z64 _
 have fK:∀H',H' kS=none->xi X pins H' kS:=λH' hn=>I.fpOk L hn;have nK:(kS:Addr)∉frs X.stack:=λz=>by
  rcases zY4.mp (I.stkSub _ z)with q|q
  ·exact(I.fpOk (H':=λ_=>none) L rfl).2.1 q
  ·exact(I.fpOk (H':=λ_=>none) L rfl).2.2.1 q
 have hne:D≠kS:=zZ7 (zX8 hD L);have Y:H kS=none:=I.hok.fresh L;unfold ksk_rest;refine zX5 (wpAny_rule ?_);rw[yi4];refine zX5 (fi (s:={s with heap:=U}) hlen l nD nK hne fK F ⟨H,[],[],0,I0,λ_ _ q=>q,J,C,fD,Y,.nil,.nil⟩ λs' hI=>?_);obtain⟨H1,ks,xs,e,I1,st,eD,eK,K,a0,rv,pr⟩:=hI.ex;rw[hlen,z40]at pr;have k:ks.length=vs.length:=by rw[<-rv.length,pr.len,hlen]
 refine zX5 (listItems_at eK rfl ?_);unfold ksk_end;dsimp only;rw[if_neg (by decide)];have P:Prs s'.heap ks ps:=pr.prs I1 rv;have tail:∀(g:SortSt) (out:List Value),out.length<=64->Srt vs ps out->failedOf g=none->(arrOf g).map (·.2)=out.toArray->wpAny (model X.prog X.w) A (ksk_tail D false e1 (.ref kS) g) V E s':=by
  intro g out lo G hf N;unfold ksk_tail;dsimp only;rw[N,hf];refine zX5 (yb3 eK rfl ?_ (by rw[zZ0,k,z29];exact fq l) (zZ4 _));have s3:=z81 s'.heap kS (Obj.mapSeq λ_=>(#[]:Array Value));have r:(s'.heap.update kS (Obj.mapSeq λ_=>(#[]:Array Value))).get? D=some (seqObj "list" #[] e1):=(s3.2 D hne).trans eD;have I3:Inv X pins σ H1 {s' with heap:=s'.heap.update kS (Obj.mapSeq λ_=>(#[]:Array Value)),toks:=s'.toks}:=I1.turnL (ch:=[kS]) (λb o hb q=>(s3.2 b (by simpa using hb)).trans q) λb hb=>by rw[zY2.mp hb];exact fK H1 a0
  generalize s'.heap.update kS (Obj.mapSeq λ_=>(#[]:Array Value))=h3 at r I3;refine zX5 (z95 ?_);refine zX5 (seqEpoch_at r rfl ?_);rw[if_neg (by decide)];refine zX5 (yb3 r rfl ?_ (zZ4 _) (by rw[zZ0,z29];lia));have s4:=z81 h3 D (Obj.mapSeq λ_=>out.toArray);obtain⟨c4,Z⟩:∃c4,(h3.update D (Obj.mapSeq λ_=>out.toArray)).get? D=some (seqObj "list" out.toArray c4):=⟨_,z61 r λ_=>out.toArray⟩;simp only[bne_self_eq_false,z27,z73];have I4:=I3.turnL (ch:=[D]) (t':=s'.toks) (h':=h3.update D (Obj.mapSeq λ_=>out.toArray)) (λb o hb q=>(s4.2 b (by simpa using hb)).trans q) λb hb=>by rw[zY2.mp hb];exact O H1 K
  exact zY3 (h out H1 _ c4 G I4 st Z K)
 by_cases j:vs.toArray.size<2
 ·rw[if_pos j,if_pos j];have W:vs.length<2:=by simpa using j
  refine zX5 (zY3 ?_);refine zX5 (zY3 ?_);dsimp only;have G:Srt vs ps vs:=by
   match vs,ps,W,hlen with
   |[],[],_,_=>exact⟨[],rfl,rfl,λ_ h=>by simp at h,.refl _,.nil⟩
   |[v],[p],_,_=>exact⟨[0],rfl,rfl,λi h=>by simp at h;subst h;simp,.refl _,by simp⟩
   |_::_::_,_,W,_=>simp only[z00]at W;exact(zS9 W).elim
  refine tail _ vs (by lia) G rfl ?_;rw[if_neg (by decide)];show(ks.toArray.zip vs.toArray).map (·.2)=vs.toArray;apply Array.toList_inj.mp;rw[Array.toList_map,Array.toList_zip];exact List.map_snd_zip (zZ5 k.symm)
 ·rw[if_neg j,if_neg j,if_neg (by decide)];have U:2<=vs.length:=by simp at j;exact j
  have ask:=kH (prog:=X.prog) (w:=X.w) (A:=A) (s:=s') (by rw[k];exact U) P
   (R:=λp m=>Srt vs ps (p.toList.map λi=>vs.getD i Value.none)/\m=s') (λix a b c d=>⟨⟨ix,by simp,a,b,c,d⟩,rfl⟩)
  refine zX5 (z26 ask (λκ s0 hk=>?_) λ_ _ x=>x.elim);rw[k]at hk;refine zX5 (z26 (kat_run (Q:=λg m=>∃p:Array Nat,p.size=vs.length/\arrOf g=p.map (kas_item (ks.toArray.zip vs.toArray))/\failedOf g=none/\Srt vs ps (p.toList.map λi=>vs.getD i Value.none)/\m=s')
   k U l (λp' g m a1 a2 a3 a4=>⟨p',a1,a2,a3,a4⟩) hk) ?_ λ_ _ e=>e)
  rintro⟨⟨⟩,g⟩ m ⟨p,hp,a5,hf,G,rfl⟩;dsimp only;exact tail g _ (by rw[G.len,<-hlen];exact z36 l) G hf (kat_snds k a5)
end
section
variable {X:Cx}{pins:List (Addr×Obj)}{σ:St}{H:Hp}{s:Shared}
theorem Inv.adopt {D:Addr}{o:HO}(I:Inv X pins σ H s)(fp:xi X pins H D)(new:zA X.prog X.w (upd H D o) s.heap D o):Inv X pins σ (upd H D o) s:=by
 have a:=fp.1;have st:∀b u,H b=some u->upd H D o b=some u:=λb u e=>by rw[zc (zh e a)];exact e
 have:=I.step (g':=s.gens) (t':=s.toks) (d':=s.drawn) (h':=s.heap) (H':=upd H D o) (ch:=[D]) (λb hb=>by rw[zY2.mp hb];exact⟨fp.2.2.2.1,fp.2.1,fp.2.2.2.2.1,fp.2.2.2.2.2⟩) (λb u _ _ _ e _=>e) (λb u _ _ _ e _=>⟨u.slots,e⟩) (λb u hb e n=>by rw[zc (by simpa using hb)];exact n)
  (λb u _ e=>⟨u,e⟩) (λb xs e=>st b _ e) (λb u xs e=>st b _ e) (λb ps e=>⟨#[],by rw[st b _ e];simp⟩) (λm hm=>hm) (λb u e=>?_) I.bare
 ·exact this
 ·by_cases hb:b=D
  ·subst hb;rw[zf]at e;cases e;exact new
  ·rw[zc hb]at e;exact(I.hok b u e).stay (λc v _ q=>q) (λc q=>st c _ q) λc xs q=>st c _ q
theorem om {A:Around}{E:Value->Shared->Prop}{l f:Addr}{vs:List Value}{ps:List (Int×Int)}{Q:Value->Shared->Prop}(I:Inv X pins σ H s)(B:s.heap.IsList l vs.toArray)(hlen:vs.length=ps.length)(g:vs.length<64)
  (j:∀i v,vs[i]?=some v->∀H1 s1,Inv X pins σ H1 s1->(∀a o,H a=some o->H1 a=some o)->
   wpAny (model X.prog X.w) A.in1.in1 (call (.ref f) [v]) (λu s2=>∃t p,u=.ref t/\Inv X pins σ p s2/\(∀a o,H1 a=some o->p a=some o)/\p t=some (.tup [.int (at2 ps i).1,.int (at2 ps i).2])/\cS X H1 p s1 s2) (λ_ _=>False) s1)
  (h:∀D out H' s' c,s.heap.objs.size<=D->Srt vs ps out->Inv X pins σ H' s'->(∀a o,H a=some o->H' a=some o)->s'.heap.get? D=some (seqObj "list" out.toArray c)->H' D=none->xi X pins H' D->Q (.ref D) s'):
  wpAny (model X.prog X.w) A (call (.builtin "sorted") [.ref l] [("key",.ref f)]) Q E s:=by
 refine call_function_entry_kw kind_sorted plain_sorted entry_sorted (ksk_s1 _ _) ?_;unfold Builtin.«sorted»;refine zX5 (m:=checkCount "sorted" 1 1 _) (zY3 ?_);refine zX5 (collect_list B ?_ (by rw[z29];exact fq g));refine zX5 (wpAny_newList ?_ (by rw[z29];exact fq g));have hsz:((s.heap.push (seqObj "list" #[] 0)).update s.heap.objs.size (Obj.mapSeq (·++vs.toArray))).objs.size=s.heap.objs.size+1:=by rw[Heap.size_update,size_push']
 have n:(((s.heap.push (seqObj "list" #[] 0)).update s.heap.objs.size (Obj.mapSeq (·++vs.toArray))).push (seqObj "list" vs.toArray 0)).get? (s.heap.objs.size+1)=some (seqObj "list" vs.toArray 0):=by rw[<-hsz];exact zY7 _ rfl
 have keep:∀b o,s.heap.get? b=some o->(((s.heap.push (seqObj "list" #[] 0)).update s.heap.objs.size (Obj.mapSeq (·++vs.toArray))).push (seqObj "list" vs.toArray 0)).get? b=some o:=λb o q=>by
  have d:b<s.heap.objs.size:=zY5 q;rw[yf8 _ _ _ (by rw[hsz];exact zZ7 (z89 d)),Heap.get?_update_ne _ _ _ _ (zZ7 d),yf8 _ _ _ (zZ7 d)];exact q
 show wpAny _ _ _ _ _ {s with heap:=((s.heap.push (seqObj "list" #[] 0)).update s.heap.objs.size (Obj.mapSeq (·++vs.toArray))).push (seqObj "list" vs.toArray 0)};rw[hsz];have x:Inv X pins σ H {s with heap:=((s.heap.push (seqObj "list" #[] 0)).update s.heap.objs.size (Obj.mapSeq (·++vs.toArray))).push (seqObj "list" vs.toArray 0),toks:=s.toks}:=I.kept keep;have k:s.heap.objs.size<=s.heap.objs.size+1:=z64 _;refine zX5 (z34 (wpAny_call_entry_kw slot_list_sort ⟨_,n,rfl⟩ entry_list_sort ?body (ksk_l1 _ _)))
 case body=>
  rw[ksk_t1];refine jy (s:={s with heap:=((s.heap.push (seqObj "list" #[] 0)).update s.heap.objs.size (Obj.mapSeq (·++vs.toArray))).push (seqObj "list" vs.toArray 0)}) x n hlen g (I.hok.fresh k) (λz=>?_) (λH' hn=>I.fpOk k hn) j λout H' s' c C y st e r=>?_
  ·rcases zY4.mp (I.stkSub _ z)with q|q
   ·exact(I.fpOk (H':=λ_=>none) k rfl).2.1 q
   ·exact(I.fpOk (H':=λ_=>none) k rfl).2.2.1 q
  ·exact⟨_,rfl,zY3 ⟨_,rfl,h _ out H' s' c k C y st e r (I.fpOk k r)⟩⟩
end
section
variable {X:Cx}{a:Expr}{p pos kpos lpos p1 p2 p3 p4 p5 p6:Pos}{n1:Nat}{x y:Str}{params:Arguments}{scope:Scope}
abbrev pairE (x y:Str)(n1:Nat)(p1 p2 p3 p4 p5 p6:Pos):Expr:=.Tuple [.Subscript (.Name y p1) (.Name x p2) p3,.UnaryOp .USub (.Name x p4) p5] n1 p6
def keyOf (zs:List Int)(n:Int):Int×Int:=(zs.getD n.toNat 0,-n)
theorem zk0 {P:Program}{w:World}{K:PySem.W.Frag}{mg:Str->Option Value}{base:Heap}{f c cl l:Addr}{A:Around}{outer:List Env}{s:Shared}{H:Hp}{u ul:Value}{k:Nat}{n:Int}{zs:List Int}
  (S:wj x y params scope) (hr:zG k A) (r:uV P w K mg base A outer s H) (hf:H f=some (kE f c xG params (pairE x y n1 p1 p2 p3 p4 p5 p6) scope [(y,cl)])) (q:H c=some (tG c)) (hcl:s.heap.IsCell cl (some ul)) (b:H cl=none) (e:RelV (.int n) u) (h:RelV (.ref l) ul)
  (hb:∀pm ctv,bindArgs (PySem.W.kla_fn "<lambda>" xG params (pairE x y n1 p1 p2 p3 p4 p5 p6) scope [(y,cl)] pm (.ref c) ctv) ⟨[u],[]⟩=pure [(x,u)])
  (hdx:(x == ("__debug__":Str))=false) (hdy:(y == ("__debug__":Str))=false) (hcx:(x == ("__classdict__":Str))=false) (hcy:(y == ("__classdict__":Str))=false)
  (o:SqL K H l (zs.map V.int)) (h0:0<=n) (m:n<zs.length):
  codeAny (model P w) A (.call (.ref f) ⟨[u],[]⟩) (CR CX0 outer P w H s (λv H'=>∃t,v=.ref t/\H t=none/\H'=upd H t (.tup [.int (keyOf zs n).1,.int (keyOf zs n).2])) E0) s:=by
 obtain⟨j,rfl⟩:=z92 h0;have d:j<zs.length:=(om9 m);refine zo3 S hr r hf q hcl b e h hb (t:=_) (kP (zp (yy zL (yF (i:=1) rfl (Or.inr (Or.inr S.py)) hdy hcy) (yF (i:=0) rfl (Or.inl S.px) hdx hcx) (λ_ _=>rfl)) (zp (zr9 aX (yF (i:=0) rfl (Or.inl S.px) hdx hcx)) zF))) ?_;refine⟨_,rfl,_,rfl,l,_,_,.int (zs.getD j 0),rfl,rfl,o,vv ?_,_,rfl,_,rfl,(by show 2<=sizeLine;decide),λt g=>⟨t,rfl,g,?_⟩⟩
 ·rw[zZ1,zY0 d,z08,zY0 d];rfl
 ·simp[keyOf]
def aB (ns zs ms:List Int):Prop:=ms.Perm ns/\ms.Pairwise λm k=>lx (keyOf zs k) (keyOf zs m)=false
theorem zd5 {ns zs:List Int}{vs out:List Value}(r:Vals (ns.map V.int) vs)(h:Srt vs (ns.map (keyOf zs)) out):∃ms,aB ns zs ms/\Vals (ms.map V.int) out:=by
 obtain⟨b,rfl,e,hb,c,hw⟩:=h;have at_:∀i∈b,at2 (ns.map (keyOf zs)) i=keyOf zs (ns.getD i 0):=λi hi=>by
  have:=hb i hi;rw[zX7]at this;unfold at2;rw[z08,zZ1,zY0 this,z08,zY0 this];rfl
 have em:b.map (at2 (ns.map (keyOf zs)))=(b.map λi=>ns.getD i 0).map (keyOf zs):=by
  rw[z55];exact List.map_congr_left at_
 rw[em]at c hw;have inv:∀l:List Int,(l.map (keyOf zs)).map (λq=>-q.2)=l:=λl=>by
  rw[z55];have:((λq:Int×Int=>-q.2)∘keyOf zs)=id:=by funext n;simp[keyOf]
  rw[this,List.map_id]
 refine⟨b.map λi=>ns.getD i 0,⟨?_,List.pairwise_map.mp hw⟩,?_⟩
 ·have:=c.map (λq=>-q.2)
  rwa [inv,inv]at this
 ·clear em c hw e
  induction b with
  |nil=>exact .nil
  |cons i b d=>
   refine .cons ?_ (d (λk hk=>hb k (zY6 _ hk)) λk hk=>at_ k (zY6 _ hk));have hi:=hb i zY9;rw[zX7]at hi;refine rg r i _ ?_;show _=some (V.int (ns.getD i 0));rw[zZ1,zY0 hi,z08,zY0 hi];rfl
theorem wJ {K:PySem.W.Frag}{H H':Hp}{a:Addr}{xs:List V}(h:SqL K H a xs)(k:∀a o,(∀ps,o≠.tbl ps)->H a=some o->H' a=some o):SqL K H' a xs:=by
 rcases h with(h|⟨o,h⟩)|h
 ·exact .inl (.inl (k _ _ (λ_ z=>by cases z) h))
 ·exact .inl (.inr ⟨o,k _ _ (λ_ z=>by cases z) h⟩)
 ·exact .inr h
theorem kU {ta:TE}{j k:Nat}{c:Addr}(S:wj x y params scope)(hr:zG (k+2) X.A)(hg:Gl X "sorted")(hm:X.mg "sorted"=none)(hN:X.N[j]?=some y)(hy:X.env.scope.names.lookup y=some .cell)
  (hcl:∀cl,X.env.cells.lookup y=some cl->closureFor scope X.env=pure [(y,cl)]) (hgl:X.env.globals=mainGlobals) (hco:X.env.code=.ref c) (hhd:PySem.W.CodeHd X.base c yi) (hbi:X.base.BuiltinsAt X.mg yi) (hdf:defaultsOf params X.env=([],[])) (hq:X.env.qual++("<lambda>":Str)=xG) (hne:mainGlobals≠yi)
  (hb:∀u cl c' pm ctv,bindArgs (PySem.W.kla_fn "<lambda>" xG params (pairE x y n1 p1 p2 p3 p4 p5 p6) scope [(y,cl)] pm (.ref c') ctv) ⟨[u],[]⟩=pure [(x,u)])
  (hdx:(x == ("__debug__":Str))=false) (hdy:(y == ("__debug__":Str))=false) (hcx:(x == ("__classdict__":Str))=false) (hcy:(y == ("__classdict__":Str))=false) (ha:PE X a ta)
  (he:starEach [a] X.env=(false,eval a X.env)::starEach [] X.env:=by rfl) (a5:backTo pos (starEach [a] X.env)=(false,eval a X.env)::backTo pos (starEach [] X.env):=by rfl) (hpl:((backTo pos (starEach [a] X.env)).any λx=>x.1)=false:=by rfl):
  PE X (.Call (.Name "sorted" p) [a] [⟨some "key",.Lambda params (pairE x y n1 p1 p2 p3 p4 p5 p6) scope lpos,kpos⟩] pos)
   (λσ H Q=>ta σ H λv H1=>∃l ns L zs,v=.ref l/\SqL X.K H1 l (ns.map V.int)/\σ[j]?=some (some (.ref L))/\SqL X.K H1 L (zs.map V.int)/\ns.length<64/\(∀n∈ns,0<=n/\n<zs.length)/\TabAt H1/\
    ∀D H' ms,H1 D=none->H' D=some (.lst (ms.map V.int))->aB ns zs ms->TabAt H'->(∀a o,a≠yi->H1 a=some o->H' a=some o)->Q (.ref D) H'):=by
 intro pins s σ H Q I h;refine z72 (yT I hg hm boot_sorted ?_)
 let Pd:V->Hp->Prop:=λv H1=>∃l ns L zs,v=.ref l/\SqL X.K H1 l (ns.map V.int)/\σ[j]?=some (some (.ref L))/\SqL X.K H1 L (zs.map V.int)/\ns.length<64/\(∀n∈ns,0<=n/\n<zs.length)/\TabAt H1/\
    ∀D H' ms,H1 D=none->H' D=some (.lst (ms.map V.int))->aB ns zs ms->TabAt H'->(∀a o,a≠yi->H1 a=some o->H' a=some o)->Q (.ref D) H'
 refine callWith_kw (thn (zp ha zF he pos pins s σ H (λvs H1=>match vs with|[v]=>Pd v H1|_=>False) I h) λus s1 a6=>?_) a5 hpl;obtain⟨vs,H1,I1,r1,q1⟩:=a6
 match vs,r1,q1 with
 |[v],r1,q1=>
  obtain⟨u,rfl,ru⟩:=vals1 r1;obtain⟨l,ns,L,zs,rfl,hS,Z,hZ,O,a4,T,q⟩:=(show Pd v H1 from q1);obtain⟨m,hn,hl⟩:=id I1.loc;obtain⟨ul,rl,lk⟩:=hl j y _ hN Z (.inr (.inl hy));obtain⟨cl,G,a8⟩:∃cl,X.env.cells.lookup y=some cl/\s1.heap.IsCell cl (some ul):=by
   rcases lk with⟨z,_⟩|⟨_,cl,z1,z2⟩
   ·have z:X.env.scope.names.lookup y=some .local:=z;rw[hy]at z;cases z
   ·exact⟨cl,z1,z2⟩
  show wpAny _ _ (evalAll ((do let v <-eval (.Lambda params (pairE x y n1 p1 p2 p3 p4 p5 p6) scope lpos) X.env;standAt pos;pure v)::[])) _ _ s1;refine wpAny_evalAll_cons (zX5 (zf7 I1 (hcl cl G) hgl hco hhd hbi hdf hq hne T λf c' H2 s2 I2 T2 U a0 hf R F=>zX5 (yd1 (zY3 (wpAny_evalAll_nil ?_)))));cases ru;show wpAny _ _ (call (.builtin "sorted") [.ref l] [("key",.ref f)]) _ _ s2;have w:∀a o,(∀ps,o≠.tbl ps)->H1 a=some o->H2 a=some o:=λa o no e=>U a o (λz=>by
   obtain⟨ps,t1,_⟩:=T.ex;rw[z,t1]at e;cases e;exact no _ rfl) e
  have S2:=wJ hS w;have Z2:=wJ hZ w;obtain⟨its,r,ht,hz⟩:=I2.list S2;have B:its.length=ns.length:=by rw[<-r.length,zX7]
  refine om (ps:=ns.map (keyOf zs)) I2 ht.isList (by rw[zX7];exact B) (z02 (zZ5 B) O) (λi v hv H3 s3 I3 w=>?_) λD out H' s' c0 lD so I' st e fD fp=>?_
  ·have hi:i<ns.length:=by rw[<-B];exact(zX9.mp hv).1
   have rv:RelV (.int ns[i]) v:=by
    have:=rg r i (.int ns[i]) (by rw[zZ1,zY0 hi];rfl)
    rwa [z08,hv]at this
   obtain⟨m3,b1,a7⟩:=id I3.loc;obtain⟨a3,a2,a9⟩:=a7 j y _ hN Z (.inr (.inl hy));have J:s3.heap.IsCell cl (some a3):=by
    rcases a9 with⟨z,_⟩|⟨_,b3,z1,z2⟩
    ·have z:X.env.scope.names.lookup y=some .local:=z;rw[hy]at z;cases z
    ·rw[G]at z1;cases z1;exact z2
   have M:=a4 ns[i] (z93 hi);have ek:at2 (ns.map (keyOf zs)) i=keyOf zs ns[i]:=by
    unfold at2;rw[z08,zZ1,zY0 hi];rfl
   rw[ek];have Z3:=wJ Z2 λa o _ e=>w a o e;refine yc7 (yb9 (zk0 S hr.in1.in1 I3.env0.in1.in1 (w _ _ R) (w _ _ F) J (I3.freeC y cl G) rv a2 (λpm ctv=>hb _ _ _ pm ctv) hdx hdy hcx hcy Z3 M.1 M.2) λrr s4 C=>?_);cases rr with
   |error e=>exact False.elim C
   |ok fl=>
    cases fl with
    |next=>exact False.elim C
    |brk=>exact False.elim C
    |cont=>exact False.elim C
    |ret u4=>
     obtain⟨v4,H4,os,bare,un,hok,r4,t,rfl,a1,P⟩:=C;cases r4;obtain⟨hh,g,d,tk,b0⟩:=s4;obtain rfl:b0=s3.os:=os;refine⟨t,H4,rfl,I3.call (h':=hh) (g':=g) (d':=d) (t':=tk) (ch:=[]) un hok bare (λb z=>absurd z (by simp)),λa o e=>?_,by rw[P];exact zf,λb o e n nf=>⟨un.keep b o e n nf (by simp),un.free b o e n (by simp)⟩⟩;rw[P,zc (zh e a1)];exact e
  ·obtain⟨ms,sm,rm⟩:=zd5 r so;have nD:∀a o,H' a=some o->a≠D:=λa o e z=>by rw[z,fD]at e;cases e
   have E:H2 D=none:=I2.hok.fresh lD;have Y:∀a o,H2 a=some o->upd H' D (.lst (ms.map V.int)) a=some o:=λa o e=>by rw[zc (nD a o (st a o e))];exact st a o e
   refine⟨.ref D,upd H' D (.lst (ms.map V.int)),I'.adopt fp ⟨?_,out,c0,rm,e⟩,rfl,q D _ ms ?_ zf sm (T2.same λa o _ e=>Y a o e) λa o no e=>Y a o (U a o no e)⟩
   ·rw[zX7,sm.1.length_eq,z29];exact fq O
   ·cases z:H1 D with
    |none=>rfl
    |some o=>
     by_cases nt:∀ps,o≠.tbl ps
     ·rw[w D o nt z]at E;cases E
     ·simp only[Classical.not_forall,Classical.not_not]at nt;obtain⟨qs,rfl⟩:=nt;obtain⟨b2,w'⟩:=a0 D qs z;rw[w']at E;cases E
end
section
variable {X:Cx}{α:Ev}{p q pos:Pos}{a b:Expr}
theorem sf {G:Hp}:∀ns:List Int,AVs G (ns.map V.int) (ns.map .int)
 |[]=>.nil
 |n::ns=>.cons (.int n) (sf ns)
theorem zf5 {Q:List PyData->Prop}(G:X.calm=true)(hg:Gl X "list")(hm:X.mg "list"=none)(s:Gl X "range")(t:X.mg "range"=none)(h:EvD X α a λx=>EvD X α b λy=>∃i j,x=.int i/\y=.int j/\(-(2 ^ 62)<=i/\i<2 ^ 62/\-(2 ^ 62)<=j/\j<2 ^ 62)/\(j-i).toNat<=1000/\Q ((zx i (j-i).toNat).map .int))
  (he:starEach [.Call (.Name "range" q) [a,b] [] p] X.env=(false,eval (.Call (.Name "range" q) [a,b] [] p) X.env)::starEach [] X.env:=by rfl) (d:starEach [a,b] X.env=(false,eval a X.env)::starEach [b] X.env:=by rfl) (g:starEach [b] X.env=(false,eval b X.env)::starEach [] X.env:=by rfl)
  (hpl:(backTo p (starEach [b] X.env)).any (·.1)=false:=by rfl) {D:Pos}:EvL X α (.Call (.Name "list" D) [.Call (.Name "range" q) [a,b] [] p] [] pos) Q:=λF σ H R m k=>by
 refine⟨_,xr (qq G) hg hm boot_list (zp (xr mW s t boot_range (zp zg (zp zg zF g) d) (he:=d) (hpl:=hpl)) zF he) (he:=he),?_⟩;refine h F σ H _ m λx L H1 I t1 k1 A=>?_;have m1:=m.kz k1 t1;refine I F σ H1 _ m1 λy K f w t2 k2 J=>?_;have m2:=m1.kz k2 t2;obtain⟨i,j,rfl,rfl,⟨v,E,B,C⟩,hz,q⟩:=w;cases A.int_inv;cases J.int_inv;refine⟨i,j,rfl,λr hr=>?_⟩;refine⟨r,i,j,rfl,zf,⟨v,E,B,C⟩,z36 (ye hz),by lia,λl e=>?_⟩;have n:l≠r:=λz=>by rw[z,zf]at e;cases e
 have c:f l=none:=by rw[zc n]at e;exact e
 have u:=k1.trans k2;have s1:zw f (upd (upd f r (.rng i j)) l (.lst ((zx i (j-i).toNat).map V.int))):=(zW hr).trans (zW e);refine k _ _ _ q (t2.same s1) (u.trans (Kz.of_same s1)) ⟨l,_,rfl,?_,zf,sf _⟩;cases z:H l with
 |none=>rfl
 |some o=>rw[u l o z (m.tp.nt (ow0 (m2.fresh c)))]at c;cases c
end
section
variable {X:Cx}{α:Ev}{p pos:Pos}{a b:Expr}{Q:PyData->Prop}
end
theorem AVs.ints {H:Hp}{xs:List V}{ns:List Int}(h:AVs H xs (ns.map .int)):xs=ns.map V.int:=by
 induction ns generalizing xs with
 |nil=>cases h;rfl
 |cons n ns b=>cases h with
  |cons h a=>rw[z03,b a,h.int_inv]
section
variable {X:Cx}{α:Ev}{a:Expr}{p pos kpos lpos p1 p2 p3 p4 p5 p6:Pos}{n1:Nat}{x y:Str}{params:Arguments}{scope:Scope}
structure aO (X:Cx)(c:Addr)(x y:Str)(n1:Nat)(p1 p2 p3 p4 p5 p6:Pos)(params:Arguments)(scope:Scope):Prop where
 S:wj x y params scope
 hy:X.env.scope.names.lookup y=some .cell
 hcl:∀cl,X.env.cells.lookup y=some cl->closureFor scope X.env=pure [(y,cl)]
 hgl:X.env.globals=mainGlobals
 hco:X.env.code=.ref c
 hhd:PySem.W.CodeHd X.base c yi
 hbi:X.base.BuiltinsAt X.mg yi
 hdf:defaultsOf params X.env=([],[])
 hq:X.env.qual++("<lambda>":Str)=xG
 hne:mainGlobals≠yi
 hb:∀u cl c' pm ctv,bindArgs (PySem.W.kla_fn "<lambda>" xG params (pairE x y n1 p1 p2 p3 p4 p5 p6) scope [(y,cl)] pm (.ref c') ctv) ⟨[u],[]⟩=pure [(x,u)]
 hdx:(x == ("__debug__":Str))=false
 hdy:(y == ("__debug__":Str))=false
 hcx:(x == ("__classdict__":Str))=false
 hcy:(y == ("__classdict__":Str))=false
theorem jC {j k:Nat}{c:Addr}{Q:List PyData->Prop}(T:aO X c x y n1 p1 p2 p3 p4 p5 p6 params scope)(hr:zG (k+2) X.A)(hg:Gl X "sorted")(hm:X.mg "sorted"=none)(I:X.N[j]?=some y)
  (h:EvD X α a λd=>∃ns zs:List Int,d=.list (ns.map .int)/\α[j]?=some (some (.dat (.list (zs.map .int))))/\ns.length<64/\(∀n∈ns,0<=n/\n<zs.length)/\∀ms,aB ns zs ms->Q (ms.map .int))
  (he:starEach [a] X.env=(false,eval a X.env)::starEach [] X.env:=by rfl) (f:backTo pos (starEach [a] X.env)=(false,eval a X.env)::backTo pos (starEach [] X.env):=by rfl) (hpl:((backTo pos (starEach [a] X.env)).any λx=>x.1)=false:=by rfl):
  EvL X α (.Call (.Name "sorted" p) [a] [⟨some "key",.Lambda params (pairE x y n1 p1 p2 p3 p4 p5 p6) scope lpos,kpos⟩] pos) Q:=λF σ H R m k=>by
 refine⟨_,kU (j:=j) T.S hr hg hm I T.hy T.hcl T.hgl T.hco T.hhd T.hbi T.hdf T.hq T.hne T.hb T.hdx T.hdy T.hcx T.hcy zg he f hpl,?_⟩;refine h F σ H _ m λd L H1 J t1 k1 u=>?_;have m1:=m.kz k1 t1;obtain⟨ns,zs,rfl,hz,s,i,q⟩:=J;obtain⟨l,xs,rfl,g1,g2⟩:=u.lst_inv;obtain⟨v,s1,s2⟩:=m1.dat j _ hz;obtain⟨E,ys,rfl,g3,C⟩:=s2.lst_inv;cases g2.ints;cases C.ints;refine⟨l,ns,E,zs,rfl,SqL.of (zb g1).2,s1,SqL.of (zb g3).2,s,i,t1.tab,λD H' ms hD r B w kp=>?_⟩;have g:∀a xs,H1 a=some (.lst xs)->H' a=some (.lst xs):=λa xs e=>kp a _ (λz=>by
  obtain⟨ps,e1,_⟩:=t1.tab.ex;rw[z,e1]at e;cases e) e
 have kz:Kz F H1 H':=λx o e n=>kp x o n.2 e;refine k _ _ H' (q ms B) ⟨w,t1.ot,λt b c e=>⟨?_,(t1 t b c e).2⟩⟩ (k1.trans kz) ⟨D,_,rfl,?_,r,sf _⟩
 ·obtain⟨n,bs,cs,n1,e1,G,K,l1,l2⟩:=(t1 t b c e).1.ex;exact⟨n,bs,cs,n1,g _ _ e1,g _ _ G,g _ _ K,l1,l2⟩
 ·cases z:H D with
  |none=>rfl
  |some o=>rw[k1 D o z (m.tp.nt (ow0 (m1.fresh hD)))]at hD;cases hD
end
section
variable {P:Program}{w:World}{K:PySem.W.Frag}{mg:Str->Option Value}{base:Heap}
theorem zV4 {x qual:Str}{st:Stmt}{f:Addr}{N ps:List Str}{k:Nat}{φ:List A->(A->Prop)->Prop}{oc:Value}{od an:Option Addr}{osl:Array (Option Value)}{kV doc pm cdv ct:Value}
  (p:K.lookup f=some ⟨oc,od,.func (PySem.W.fnOf x qual (zN st) (zr st) (zd st) .none kV doc pm an cdv ct),osl⟩) (i:PySem.W.codeIn K cdv qual=true) (S:zI N ps (zd st)) (hlen:∀as Q,φ as Q->as.length=ps.length)
  (c:∀(d:Around) (outer:List Env) (s:Shared) (H:Hp) (E:XK) (as:List A) (Q:A->Prop),zG k (d.deeper (envOfC qual (zd st) s.heap.objs.size f cdv))->φ as Q->
   SvS (xp CX0 P w K mg base N qual (zd st) f cdv d outer s H E).nox (as.map some++List.replicate (N.length-as.length) none) (zr st) {nx:=λ_=>Q (.dat .none),rt:=Q}):yn P w K mg base CX0 (k+1) f (PySem.W.fnOf x qual (zN st) (zr st) (zd st) .none kV doc pm an cdv ct) ps (spA φ):=by
 refine jW p i S (λvs H Q E h=>?_) (λd outer s H vs n E hr h=>?_)
 ·obtain⟨F,as,l,_,_,_,g,b,_⟩:=h;rw[g.length,hlen as _ b]
 ·obtain⟨F,as,l,e,t,o,g,b,j⟩:=h;have:=c d outer s H E as l hr b F _ H {nx:=λ_ H'=>n .non H',rt:=n} (M.start e t o g) ⟨λα σ H' m q=>?_,λa v H' r q=>j a v H' q r,λ_ _ _ _ z=>z.elim,λ_ _ _ _ z=>z.elim⟩
  ·obtain⟨t,h,q⟩:=this;exact⟨t,h.nox,q⟩
  ·exact j _ _ _ q ⟨m.tp,m.keep,.non⟩
end
section
variable {X:Cx}{α:Ev}{Q:PyData->Prop}{a b:Expr}{pos:Pos}
end
theorem yX {c m:Int}{n:Nat}:m∈zx c n↔c<=m/\m<c+n:=by
 simp only[zx,z74,List.mem_range]
 constructor
 ·rintro⟨i,hi,rfl⟩;lia
 ·rintro⟨a,b⟩;exact⟨(m-c).toNat,by lia,(zR8 a)⟩
open PySem (IsZip)
section
variable {prog:Program}{w:World}{A:Around}{E:Value->Shared->Prop}{s:Shared}
theorem nW {M:Model}{a:Addr}{Q:Option Obj->Shared->Prop}(h:Q (s.heap.get? a) s):wpAny M A (loadIfAlive a) Q E s:=λb p c=>by
 show Sem.wp M b (.loadIfAlive a .pure) _ _ p s;rw[Sem.wp_loadIfAlive];exact h
abbrev zO (f0 f1:Value)(TI TO:Addr):Obj:={cls:=.type "zip",dict:=none,data:=.fields #[f0,f1,.bool false,.ref TI,.ref TO],slots:=#[]}
abbrev tO3 (a b c:Value):Obj:={cls:=.type "tuple",data:=.seq #[a,b,c]}
theorem xS {T:Addr}{a b c x:Value}{k:Nat}{Q:Unit->Shared->Prop}(hT:s.heap.get? T=some (tO3 a b c))
  (h:∀h',h'.get? T=some {cls:=.type "tuple",data:=.seq ((#[a,b,c]:Array Value).setIfInBounds k x)}->Heap.SameBut T s.heap h'->Q () {s with heap:=h'}):
  wpAny (model prog w) A (updateSeq T (·.setIfInBounds k x)) Q E s:=by
 refine z78 hT rfl (h _ ?_ (z81 ..));rw[z48 _ hT rfl];simp[Obj.mapSeq]
structure wU (h:Heap)(n:Nat)(l1 l2 l3:Addr)(k:Nat)(f0 f1 a b c:Value):Prop where
 z:h.get? (n+5:Nat)=some (zO f0 f1 (n+3:Nat) (n+4:Nat))
 ti:h.get? (n+3:Nat)=some (tO3 (.ref (n:Nat)) (.ref (n+1:Nat)) (.ref (n+2:Nat)))
 to:h.get? (n+4:Nat)=some (tO3 a b c)
 i1:h.IsListIter (n:Nat) l1 k
 i2:h.IsListIter (n+1:Nat) l2 k
 i3:h.IsListIter (n+2:Nat) l3 k
abbrev z3 (n:Nat):List Addr:=[(n:Nat),(n+1:Nat),(n+2:Nat),(n+3:Nat),(n+4:Nat),(n+5:Nat)]
theorem zo (a b:Nat)(h:a<b\/b<a):@Ne Addr a b:=λe=>by
 have e:@Eq Nat a b:=e
 lia
theorem kl {n l1 l2 l3:Nat}{k:Nat}{f1 a b c x y z:Value}{xs ys zs:Array Value}{Q:Value->Shared->Prop}(h1:l1<n)(h2:l2<n)(h3:l3<n)(Z:wU s.heap n l1 l2 l3 k .none f1 a b c)
  (a9:s.heap.IsList l1 xs) (a8:s.heap.IsList l2 ys) (a7:s.heap.IsList l3 zs) (hx:xs[k]?=some x) (hy:ys[k]?=some y) (hz:zs[k]?=some z)
  (hQ:∀h',wU h' n l1 l2 l3 (k+1) (rawInt s.heap.objs.size) (.bool false) x y z->h'.get? s.heap.objs.size=some (tO3 x y z)->
   (∀c o,c∉z3 n->s.heap.get? c=some o->h'.get? c=some o)->Q (.ref s.heap.objs.size) {s with heap:=h'}):
  wpAny (model prog w) A (Builtin.«zip.__next__» ⟨[.ref (n+5:Nat)],[]⟩) (λfin s'=>∃v,fin=.done (.ret v)/\Q v s') E s:=by
 obtain⟨H,V,a6,g1,g2,g3⟩:=Z;show wpAny _ _ (field (.ref _) 2 >>= _) _ _ _;refine zX5 (z65 H rfl (x:=.bool false) rfl ?_);show wpAny _ _ (field (.ref _) 3 >>= _) _ _ _;refine zX5 (z65 H rfl (x:=.ref (n+3:Nat)) rfl ?_);refine zX5 (z49 V rfl ?_);show wpAny _ _ (Builtin.SmallTypes.ownedTupleIsFree (.ref (n+5:Nat)) >>= _) _ _ _;refine zX5 ?_;unfold Builtin.SmallTypes.ownedTupleIsFree;refine zX5 (z65 H rfl (x:=.none) rfl (zY3 ?_));simp only[yb2];refine zX5 (wpAny_rule ?_);refine zX5 (z65 H rfl (x:=.ref (n+4:Nat)) rfl ?_);refine zX5 (ye5 H (by simp) λa2 t f=>?_)
 replace t:a2.get? (n+5:Nat)=some (zO .ellipsis f1 (n+3:Nat) (n+4:Nat)):=t
 refine zX5 ?_;simp only[List.zipIdx_cons,List.zipIdx_nil,yd6,yi2];refine zX5 (zX5 (wpAny_onRaise ?_));show wpAny _ _ (Builtin.SmallTypes.nextOf (.ref (n:Nat)) >>= _) _ _ _;refine zX5 (z82 (g1.extBut f.extBut (by refine zo _ _ ?_;exact cq)) (a9.extBut f.extBut (by refine zo _ _ ?_;exact .inl (zX8 h1 (zZ3 _ _)))) hx λa3 S g=>zY3 ?_);have B:a3.get? (n+4:Nat)=some (tO3 a b c):=g.extBut _ _ (by refine zo _ _ ?_;exact zv0) (f.extBut _ _ (by refine zo _ _ ?_;exact de) a6);refine zX5 (z49 B rfl ?_);refine zX5 (xS B λX q h=>?_)
 replace q:X.get? (n+4:Nat)=some (tO3 x b c):=q
 refine zX5 (z95 (zY3 ?_));refine zX5 (zX5 (wpAny_onRaise ?_));show wpAny _ _ (Builtin.SmallTypes.nextOf (.ref (n+1:Nat)) >>= _) _ _ _;refine zX5 (z82 (((g2.extBut f.extBut (by refine zo _ _ ?_;exact ze8)).extBut g.extBut (by refine zo _ _ ?_;exact .inr (z52 _))).extBut h.extBut (by refine zo _ _ ?_;exact zc9))
  (((a8.extBut f.extBut (by refine zo _ _ ?_;exact .inl (zX8 h2 (zZ3 _ _)))).extBut g.extBut (by refine zo _ _ ?_;exact .inl h2)).extBut h.extBut (by refine zo _ _ ?_;exact .inl (zX8 h2 (zZ3 _ _)))) hy λU O i=>zY3 ?_)
 have C:U.get? (n+4:Nat)=some (tO3 x b c):=i.extBut _ _ (by refine zo _ _ ?_;exact zz1) q;refine zX5 (z49 C rfl ?_);refine zX5 (xS C λa4 r j=>?_)
 replace r:a4.get? (n+4:Nat)=some (tO3 x y c):=r
 refine zX5 (z95 (zY3 ?_));refine zX5 (zX5 (wpAny_onRaise ?_));show wpAny _ _ (Builtin.SmallTypes.nextOf (.ref (n+2:Nat)) >>= _) _ _ _;refine zX5 (z82 (((((g3.extBut f.extBut (by refine zo _ _ ?_;exact bA)).extBut g.extBut (by refine zo _ _ ?_;exact zy0)).extBut h.extBut (by refine zo _ _ ?_;exact zb1)).extBut i.extBut (by refine zo _ _ ?_;exact zs1)).extBut j.extBut (by refine zo _ _ ?_;exact zb1))
  (((((a7.extBut f.extBut (by refine zo _ _ ?_;exact .inl (zX8 h3 (zZ3 _ _)))).extBut g.extBut (by refine zo _ _ ?_;exact .inl h3)).extBut h.extBut (by refine zo _ _ ?_;exact .inl (zX8 h3 (zZ3 _ _)))).extBut i.extBut (by refine zo _ _ ?_;exact .inl (zX8 h3 (zZ3 _ _)))).extBut j.extBut (by refine zo _ _ ?_;exact .inl (zX8 h3 (zZ3 _ _)))) hz λa0 T l=>zY3 ?_)
 have D:a0.get? (n+4:Nat)=some (tO3 x y c):=l.extBut _ _ (by refine zo _ _ ?_;exact zy5) r;refine zX5 (z49 D rfl ?_);refine zX5 (xS D λd p m=>?_)
 replace p:d.get? (n+4:Nat)=some (tO3 x y z):=p
 refine zX5 (z95 (zY3 (zY3 ?_)));refine zX5 (z49 p rfl ?_);refine zX5 (wpAny_newTuple ?_);have hsz:d.objs.size=s.heap.objs.size:=by rw[m.1,l.1,j.1,i.1,h.1,g.1,f.1]
 have Y:∀c o,c≠(n+5:Nat)->c≠(n:Nat)->c≠(n+4:Nat)->c≠(n+1:Nat)->c≠(n+2:Nat)->s.heap.get? c=some o->d.get? c=some o:=λc o c1 c2 c3 c4 c5 e=>
  m.extBut _ _ c3 (l.extBut _ _ c5 (j.extBut _ _ c3 (i.extBut _ _ c4 (h.extBut _ _ c3 (g.extBut _ _ c2 (f.extBut _ _ c1 e))))))
 have G:d.get? (n+5:Nat)=some (zO .ellipsis f1 (n+3:Nat) (n+4:Nat)):=m.extBut _ _ (by refine zo _ _ ?_;exact aq) (l.extBut _ _ (by refine zo _ _ ?_;exact zv6) (j.extBut _ _ (by refine zo _ _ ?_;exact aq) (i.extBut _ _ (by refine zo _ _ ?_;exact zt1) (h.extBut _ _ (by refine zo _ _ ?_;exact aq) (g.extBut _ _ (by refine zo _ _ ?_;exact zy1) t)))));have N:d.IsListIter (n:Nat) l1 (k+1):=((((S.extBut h.extBut (by refine zo _ _ ?_;exact dW)).extBut i.extBut (by refine zo _ _ ?_;exact .inl (z52 _))).extBut j.extBut (by refine zo _ _ ?_;exact dW)).extBut l.extBut (by refine zo _ _ ?_;exact zv1)).extBut m.extBut (by refine zo _ _ ?_;exact dW);have M:d.IsListIter (n+1:Nat) l2 (k+1):=((O.extBut j.extBut (by refine zo _ _ ?_;exact zc9)).extBut l.extBut (by refine zo _ _ ?_;exact zw1)).extBut m.extBut (by refine zo _ _ ?_;exact zc9);have R:d.IsListIter (n+2:Nat) l3 (k+1):=T.extBut m.extBut (by refine zo _ _ ?_;exact zb1);have I:=Y _ _ (by refine zo _ _ ?_;exact za9) (by refine zo _ _ ?_;exact zs3) (by refine zo _ _ ?_;lia) (by refine zo _ _ ?_;exact zv7) (by refine zo _ _ ?_;exact zs7) V;have K:(n+5:Nat)<d.objs.size:=zY5 G;show wpAny _ _ (Builtin.SmallTypes.ownedTupleHandOut (.ref (n+5:Nat)) (.ref d.objs.size) >>= _) _ _ _;refine zX5 ?_;unfold Builtin.SmallTypes.ownedTupleHandOut;have L:(d.push {cls:=.type "tuple",data:=.seq #[x,y,z]}).get? (n+5:Nat)=some (zO .ellipsis f1 (n+3:Nat) (n+4:Nat)):=zX6 _ G;refine zX5 (ye5 L (by simp) λW u F=>?_)
 replace u:W.get? (n+5:Nat)=some (zO (rawInt d.objs.size) f1 (n+3:Nat) (n+4:Nat)):=u
 refine ye5 u (by simp) λhA J a5=>?_
 replace J:hA.get? (n+5:Nat)=some (zO (rawInt d.objs.size) (.bool false) (n+3:Nat) (n+4:Nat)):=J
 have up:∀c o,c≠(n+5:Nat)->d.get? c=some o->hA.get? c=some o:=λc o c1 e=>a5.extBut _ _ c1 (F.extBut _ _ c1 (zX6 _ e));have a1:hA.get? d.objs.size=some (tO3 x y z):=a5.extBut _ _ (z71 K) (F.extBut _ _ (z71 K) (zY7 _ rfl));rw[hsz]at J a1;refine zY3 ⟨_,rfl,?_⟩;show Q (.ref d.objs.size) _;rw[hsz];refine hQ hA ⟨J,up _ _ (by refine zo _ _ ?_;exact za9) I,up _ _ (by refine zo _ _ ?_;exact de) p,N.at λo e=>up _ o (by refine zo _ _ ?_;exact cq) e,M.at λo e=>up _ o (by refine zo _ _ ?_;exact ze8) e,R.at λo e=>up _ o (by refine zo _ _ ?_;exact bA) e⟩ a1 λc o P e=>?_;simp only[z3,zY4,zZ8,z32,not_or]at P;exact up c o P.2.2.2.2.2 (Y c o P.2.2.2.2.2 P.1 P.2.2.2.2.1 P.2.1 P.2.2.1 e)
theorem qN {n l1 l2 l3 k T:Nat}{f1 a b c:Value}{ot:Obj}{Q:Bool->Shared->Prop}(r:l1<n)(q:l2<n)(t:l3<n)(Z:wU s.heap n l1 l2 l3 k (rawInt (T:Nat)) f1 a b c)(hT:s.heap.get? T=some ot)
  (m:∀h' l,wU h' n l1 l2 l3 k (rawInt (T:Nat)) l a b c->h'.objs.size=s.heap.objs.size->(∀c o,c≠(n+5:Nat)->s.heap.get? c=some o->h'.get? c=some o)->Q false {s with heap:=h'}):
  wpAny (model prog w) A (Builtin.SmallTypes.ownedTupleIsFree (.ref (n+5:Nat))) Q E s:=by
 obtain⟨g,i,j,g1,g2,g3⟩:=Z;unfold Builtin.SmallTypes.ownedTupleIsFree;refine zX5 (z65 g rfl (x:=rawInt (T:Nat)) rfl ?_);show wpAny _ _ (loadIfAlive ((T:Int).toNat) >>= _) _ _ _;refine zX5 (nW ?_);rw[show((T:Int).toNat)=T from yf7 T,hT];show wpAny _ _ (field (.ref (n+5:Nat)) 1 >>= _) _ _ _;refine zX5 (z65 g rfl (x:=f1) rfl ?_);refine yb5 (λ_=>?_) (λ_=>?_)
 ·refine zX5 (ye5 g (by simp) λh f d=>zY3 ?_)
  replace f:h.get? (n+5:Nat)=some (zO (rawInt (T:Nat)) (.bool true) (n+3:Nat) (n+4:Nat)):=f
  exact m h _ ⟨f,d.extBut _ _ (by refine zo _ _ ?_;exact za9) i,d.extBut _ _ (by refine zo _ _ ?_;exact de) j,g1.extBut d.extBut (by refine zo _ _ ?_;exact cq),g2.extBut d.extBut (by refine zo _ _ ?_;exact ze8),g3.extBut d.extBut (by refine zo _ _ ?_;exact bA)⟩ d.1 λc o p e=>d.extBut _ _ p e
 ·exact zY3 (m s.heap f1 ⟨g,i,j,g1,g2,g3⟩ rfl λ_ _ _ e=>e)
theorem eh {n l1 l2 l3 k T:Nat}{f1 a b c x y z:Value}{ot:Obj}{xs ys zs:Array Value}{Q:Value->Shared->Prop}(N:l1<n)(K:l2<n)(F:l3<n)(Z:wU s.heap n l1 l2 l3 k (rawInt (T:Nat)) f1 a b c)(hT:s.heap.get? T=some ot)
  (m:s.heap.IsList l1 xs) (l:s.heap.IsList l2 ys) (u:s.heap.IsList l3 zs) (V:xs[k]?=some x) (hy:ys[k]?=some y) (hz:zs[k]?=some z)
  (U:∀h' t,wU h' n l1 l2 l3 (k+1) (rawInt (T:Nat)) t a b c->h'.get? s.heap.objs.size=some (tO3 x y z)->
   (∀c o,c∉z3 n->s.heap.get? c=some o->h'.get? c=some o)->Q (.ref s.heap.objs.size) {s with heap:=h'}):
  wpAny (model prog w) A (Builtin.«zip.__next__» ⟨[.ref (n+5:Nat)],[]⟩) (λfin s'=>∃v,fin=.done (.ret v)/\Q v s') E s:=by
 show wpAny _ _ (field (.ref _) 2 >>= _) _ _ _;refine zX5 (z65 Z.z rfl (x:=.bool false) rfl ?_);show wpAny _ _ (field (.ref _) 3 >>= _) _ _ _;refine zX5 (z65 Z.z rfl (x:=.ref (n+3:Nat)) rfl ?_);refine zX5 (z49 Z.ti rfl ?_);show wpAny _ _ (Builtin.SmallTypes.ownedTupleIsFree (.ref (n+5:Nat)) >>= _) _ _ _;refine zX5 (qN N K F Z hT λG t ZB J D=>?_);obtain⟨L,H,I,g1,g2,g3⟩:=ZB
 replace m:G.IsList l1 xs:=m.at λo e=>D _ o (by refine zo _ _ ?_;exact .inl (zX8 N (zZ3 _ _))) e
 replace l:G.IsList l2 ys:=l.at λo e=>D _ o (by refine zo _ _ ?_;exact .inl (zX8 K (zZ3 _ _))) e
 replace u:G.IsList l3 zs:=u.at λo e=>D _ o (by refine zo _ _ ?_;exact .inl (zX8 F (zZ3 _ _))) e
 simp only[z27,z73];rw[yi4];simp only[yd6,yi2];refine zX5 (zX5 (zX5 (z34 ?_)));show wpAny _ _ (Builtin.SmallTypes.nextOf (.ref (n:Nat)) >>= _) _ _ _;refine zX5 (z82 g1 m V λO r d=>zY3 (zY3 ?_));refine zX5 (zX5 (z34 ?_));show wpAny _ _ (Builtin.SmallTypes.nextOf (.ref (n+1:Nat)) >>= _) _ _ _;refine zX5 (z82 (g2.extBut d.extBut (by refine zo _ _ ?_;exact .inr (z52 _))) (l.extBut d.extBut (by refine zo _ _ ?_;exact .inl K)) hy λM q f=>zY3 (zY3 ?_));refine zX5 (zX5 (z34 ?_));show wpAny _ _ (Builtin.SmallTypes.nextOf (.ref (n+2:Nat)) >>= _) _ _ _;refine zX5 (z82 ((g3.extBut d.extBut (by refine zo _ _ ?_;exact zy0)).extBut f.extBut (by refine zo _ _ ?_;exact zs1)) ((u.extBut d.extBut (by refine zo _ _ ?_;exact .inl F)).extBut f.extBut (by refine zo _ _ ?_;exact .inl (zX8 F (zZ3 _ _)))) hz λg B h=>zY3 (zY3 (zY3 ?_)));refine zX5 (wpAny_newTuple ?_ (by show 3<=sizeLine;decide));have hsz:g.objs.size=s.heap.objs.size:=by rw[h.1,f.1,d.1];exact J
 have i:∀c o,c≠(n:Nat)->c≠(n+1:Nat)->c≠(n+2:Nat)->G.get? c=some o->g.get? c=some o:=λc o R P S e=>h.extBut _ _ S (f.extBut _ _ P (d.extBut _ _ R e));have up:∀c o,g.get? c=some o->(g.push {cls:=.type "tuple",data:=.seq #[x,y,z]}).get? c=some o:=λc o e=>zX6 _ e;have j:g.IsListIter (n:Nat) l1 (k+1):=(r.extBut f.extBut (by refine zo _ _ ?_;exact .inl (z52 _))).extBut h.extBut (by refine zo _ _ ?_;exact zv1);have p:g.IsListIter (n+1:Nat) l2 (k+1):=q.extBut h.extBut (by refine zo _ _ ?_;exact zw1);refine zY3 ⟨_,rfl,?_⟩;show Q (.ref g.objs.size) _;rw[hsz];refine U _ t ⟨up _ _ (i _ _ (by refine zo _ _ ?_;exact zy1) (by refine zo _ _ ?_;exact zt1) (by refine zo _ _ ?_;exact zv6) L),up _ _ (i _ _ (by refine zo _ _ ?_;exact zs3) (by refine zo _ _ ?_;exact zv7) (by refine zo _ _ ?_;exact zs7) H),up _ _ (i _ _ (by refine zo _ _ ?_;exact zv0) (by refine zo _ _ ?_;exact zz1) (by refine zo _ _ ?_;exact zy5) I),j.at λo e=>up _ o e,p.at λo e=>up _ o e,B.at λo e=>up _ o e⟩ ?_ λc o C e=>?_
 ·rw[<-hsz];exact zY7 _ rfl
 ·simp only[z3,zY4,zZ8,z32,not_or]at C;exact up c o (i c o C.1 C.2.1 C.2.2.1 (D c o C.2.2.2.2.2 e))
theorem bJ {n l1 l2 l3 k T:Nat}{f1 a b c:Value}{ot:Obj}{xs:Array Value}{Q:PySem.Fin->Shared->Prop}(l:A.handled=none)(i:l1<n)(p:l2<n)(u:l3<n)(Z:wU s.heap n l1 l2 l3 k (rawInt (T:Nat)) f1 a b c)(hT:s.heap.get? T=some ot)
  (f:s.heap.IsList l1 xs) (r:xs[k]?=none)
  (t:∀h' e,(∀c o,c∉z3 n->s.heap.get? c=some o->h'.get? c=some o)->(∃o,h'.get? e=some o/\o.cls=.type "StopIteration")->E (.ref e) {s with heap:=h'}):
  wpAny (model prog w) A (Builtin.«zip.__next__» ⟨[.ref (n+5:Nat)],[]⟩) Q E s:=by
 show wpAny _ _ (field (.ref _) 2 >>= _) _ _ _;refine zX5 (z65 Z.z rfl (x:=.bool false) rfl ?_);show wpAny _ _ (field (.ref _) 3 >>= _) _ _ _;refine zX5 (z65 Z.z rfl (x:=.ref (n+3:Nat)) rfl ?_);refine zX5 (z49 Z.ti rfl ?_);show wpAny _ _ (Builtin.SmallTypes.ownedTupleIsFree (.ref (n+5:Nat)) >>= _) _ _ _;refine zX5 (qN i p u Z hT λy v ZB m j=>?_)
 replace f:y.IsList l1 xs:=f.at λo e=>j _ o (by refine zo _ _ ?_;exact .inl (zX8 i (zZ3 _ _))) e
 simp only[z27,z73];rw[yi4];simp only[yd6,yi2];refine zX5 (zX5 (zX5 (z34 ?_)));show wpAny _ _ (Builtin.SmallTypes.nextOf (.ref (n:Nat)) >>= _) _ _ _;refine zX5 (wpAny_nextOf_list_end l ZB.i1 f r λg e d he=>?_);refine t g e (λc o h q=>?_) he;simp only[z3,zY4,zZ8,z32,not_or]at h;exact d _ _ h.1 (j _ _ h.2.2.2.2.2 q)
theorem nZ {n l1 l2 l3 k:Nat}{f1 a b c x y z:Value}{xs ys zs:Array Value}{Q:Option Value->Shared->Prop}(l:l1<n)(g:l2<n)(m:l3<n)(Z:wU s.heap n l1 l2 l3 k .none f1 a b c)
  (e:s.heap.IsList l1 xs) (d:s.heap.IsList l2 ys) (f:s.heap.IsList l3 zs) (i:xs[k]?=some x) (hy:ys[k]?=some y) (hz:zs[k]?=some z)
  (h:∀h',wU h' n l1 l2 l3 (k+1) (rawInt s.heap.objs.size) (.bool false) x y z->h'.get? s.heap.objs.size=some (tO3 x y z)->
   (∀c o,c∉z3 n->s.heap.get? c=some o->h'.get? c=some o)->Q (some (.ref s.heap.objs.size)) {s with heap:=h'}):
  wpAny (model prog w) A (pyNext (.ref (n+5:Nat))) Q E s:=by
 have hT:s.TypeIs (.ref (n+5:Nat)) "zip":=⟨_,Z.z,rfl⟩;unfold pyNext;exact zX5 (wpAny_attempt (yf4 (name:=Str.ofString "__next__") hT z70
  (yd0 z70 hT yf9
   (kl l g m Z e d f i hy hz λh' a1 a2 j=>zY3 (h h' a1 a2 j)) (yf5 _))))
theorem ka {n l1 l2 l3 k T:Nat}{f1 a b c x y z:Value}{ot:Obj}{xs ys zs:Array Value}{Q:Option Value->Shared->Prop}(i:l1<n)(j:l2<n)(q:l3<n)(Z:wU s.heap n l1 l2 l3 k (rawInt (T:Nat)) f1 a b c)(hT:s.heap.get? T=some ot)
  (g:s.heap.IsList l1 xs) (f:s.heap.IsList l2 ys) (h:s.heap.IsList l3 zs) (m:xs[k]?=some x) (hy:ys[k]?=some y) (hz:zs[k]?=some z)
  (l:∀h' d,wU h' n l1 l2 l3 (k+1) (rawInt (T:Nat)) d a b c->h'.get? s.heap.objs.size=some (tO3 x y z)->
   (∀c o,c∉z3 n->s.heap.get? c=some o->h'.get? c=some o)->Q (some (.ref s.heap.objs.size)) {s with heap:=h'}):
  wpAny (model prog w) A (pyNext (.ref (n+5:Nat))) Q E s:=by
 have e:s.TypeIs (.ref (n+5:Nat)) "zip":=⟨_,Z.z,rfl⟩;unfold pyNext;exact zX5 (wpAny_attempt (yf4 (name:=Str.ofString "__next__") e z70
  (yd0 z70 e yf9
   (eh i j q Z hT g f h m hy hz λh' d a1 a2 p=>zY3 (l h' d a1 a2 p)) (yf5 _))))
theorem gC {n l1 l2 l3 k T:Nat}{f1 a b c:Value}{ot:Obj}{xs:Array Value}{Q:Option Value->Shared->Prop}(q:A.handled=none)(m:l1<n)(h:l2<n)(p:l3<n)(Z:wU s.heap n l1 l2 l3 k (rawInt (T:Nat)) f1 a b c)(hT:s.heap.get? T=some ot)
  (f:s.heap.IsList l1 xs) (j:xs[k]?=none)
  (i:∀h',(∀c o,c∉z3 n->s.heap.get? c=some o->h'.get? c=some o)->Q none {s with heap:=h'}):
  wpAny (model prog w) A (pyNext (.ref (n+5:Nat))) Q E s:=by
 have d:s.TypeIs (.ref (n+5:Nat)) "zip":=⟨_,Z.z,rfl⟩;unfold pyNext;refine zX5 (wpAny_attempt (yf4 (name:=Str.ofString "__next__") d z70
  (yd0 z70 d yf9 (bJ q m h p Z hT f j λh' e hk he=>?_) (yf5 _))))
 obtain⟨o,l,g⟩:=he;refine zX5 (wpAny_isInstance (T:="StopIteration") (b:=true) ⟨o,l,g⟩ isSubtype_stop ?_);exact zY3 (i _ hk)
end
section
variable {X:Cx}{pins:List (Addr×Obj)}{σ:St}{H:Hp}{s:Shared}
def Tri (H0 H:Hp)(xs ys zs vs:List V)(i:Nat):Prop:=vs.length=i/\∀j,j<i->∃t x y z,vs[j]?=some (.ref t)/\xs[j]?=some x/\ys[j]?=some y/\zs[j]?=some z/\H t=some (.tup [x,y,z])/\H0 t=none
structure ZAt (X:Cx)(pins:List (Addr×Obj))(σ:St)(H:Hp)(n l1 l2 l3:Nat)(S:Addr)(xs ys zs:List V)(i:Nat)(s':Shared):Prop where
 ex:∃(H':Hp) (acc:List Value) (vs:List V) (e:Nat) (f0 f1 a b c:Value),Inv X pins σ H' s'/\(∀a o,H a=some o->H' a=some o)/\s'.heap.get? S=some {cls:=.type "list",dict:=none,data:=.seq acc.toArray e,slots:=#[]}/\H' S=none/\(∀b∈z3 n,H' b=none)/\
  wU s'.heap n l1 l2 l3 i f0 f1 a b c/\(i=0/\f0=.none\/∃(T:Nat) (ot:Obj),f0=rawInt (T:Nat)/\s'.heap.get? T=some ot/\T∉S::z3 n)/\Vals vs acc/\Tri H H' xs ys zs vs i
structure zB0 (X:Cx)(pins:List (Addr×Obj))(σ:St)(H:Hp)(S:Addr)(xs ys zs:List V)(s':Shared):Prop where
 ex:∃(H':Hp) (acc:List Value) (vs:List V) (e:Nat),Inv X pins σ H' s'/\(∀a o,H a=some o->H' a=some o)/\s'.heap.get? S=some {cls:=.type "list",dict:=none,data:=.seq acc.toArray e,slots:=#[]}/\H' S=none/\Vals vs acc/\Tri H H' xs ys zs vs xs.length
theorem Tri.snoc {H0 H H':Hp}{xs ys zs vs:List V}{i:Nat}{t:Addr}{x y z:V}(h:Tri H0 H xs ys zs vs i)(k:∀a o,H a=some o->H' a=some o)(f:xs[i]?=some x)(hy:ys[i]?=some y)(hz:zs[i]?=some z)(g:H' t=some (.tup [x,y,z]))(hn:H0 t=none):Tri H0 H' xs ys zs (vs++[.ref t]) (i+1):=by
 refine⟨by rw[zZ9,h.1];rfl,λj q=>?_⟩;rcases z97 j i with b|b
 ·obtain⟨t',p,n,d,e1,r,l,e,m,c⟩:=h.2 j b;exact⟨t',p,n,d,by rw[z22 (by rw[h.1];exact b)];exact e1,r,l,e,k _ _ m,c⟩
 ·have:j=i:=(z87 (z76 q) b);subst this;exact⟨t,x,y,z,by rw[z38 (by rw[h.1];exact zY1 _),h.1];simp,f,hy,hz,g,hn⟩
theorem gQ {A:Around}{R:Result->Shared->Prop}{n l1 l2 l3:Nat}{S:Addr}{xs ys zs:List V}(hh:A.handled=none)(Y:l1<n)(h2:l2<n)(h3:l3<n)(fS:∀H',H' S=none->xi X pins H' S)(fz:∀b∈z3 n,∀H',H' b=none->xi X pins H' b)(l:S∉z3 n)
  (U:SqL X.K H l1 xs) (q2:SqL X.K H l2 ys) (q3:SqL X.K H l3 zs) (e2:ys.length=xs.length) (e3:zs.length=xs.length) (h0:0<xs.length) (hN:xs.length<=1000)
  (hR:∀s',zB0 X pins σ H S xs ys zs s'->R (.ok (.ret .none)) s'):
  ∀(k i:Nat) (s:Shared),xs.length-i=k->i<=xs.length->ZAt X pins σ H n l1 l2 l3 S xs ys zs i s->codeAny (model X.prog X.w) A (.builtin "list.extend.loop" ⟨[.ref S,.ref (n+5:Nat),.none],[]⟩) R s:=by
 have a6:A.in1.handled=none:=hh;intro k
 induction k with
 |zero=>
  intro i s hk hi B;have a4:i=xs.length:=(zu4 hk hi);subst a4;obtain⟨H',acc,vs,e,f0,f1,a,b,c,I,st,G,nS,Q,Z,fr,P,tr⟩:=B.ex;refine ya1 PySem.F.entry_extend_loop ?_;rw[z75 z69 _];show wpAny _ A.in1 (pyNext (.ref (n+5:Nat)) >>= _) _ _ s;rcases fr with⟨z,_⟩|⟨T,ot,rfl,hT,g⟩
  ·exact(z33 _ (zX8 h0 (zZ5 z))).elim
  obtain⟨E,y,p1,a7⟩:=I.list (wJ U λa o _ e=>st a o e);refine zX5 (gC a6 Y h2 h3 Z hT p1.isList (by rw[yc1,yc2];rw[y.length];exact zY1 _) λh' h=>?_);refine zY3 (hR _ ⟨H',acc,vs,e,I.turnL (t':=s.toks) (ch:=z3 n) (λb o hb q=>h b o hb q) (λb hb=>fz b hb H' (Q b hb)),st,h _ _ l G,nS,P,tr⟩)
 |succ k ih=>
  intro i s hk hi B;have m:i<xs.length:=(zx5 hk);obtain⟨H',acc,vs,e,f0,f1,a,b,c,I,st,G,nS,Q,Z,fr,P,tr⟩:=B.ex;refine ya1 PySem.F.entry_extend_loop ?_;rw[z75 z69 _];show wpAny _ A.in1 (pyNext (.ref (n+5:Nat)) >>= _) _ _ s;obtain⟨E,y,p1,a7⟩:=I.list (wJ U λa o _ e=>st a o e);obtain⟨b0,a0,p2,b1⟩:=I.list (wJ q2 λa o _ e=>st a o e);obtain⟨a9,a8,p3,b2⟩:=I.list (wJ q3 λa o _ e=>st a o e);have gx:xs[i]?=some xs[i]:=zY0 m;have gy:ys[i]?=some ys[i]:=zY0 (zX8 m (zZ5 e2.symm));have gz:zs[i]?=some zs[i]:=zY0 (zX8 m (zZ5 e3.symm));obtain⟨u,hu,ru⟩:=y.get gx;obtain⟨v,hv,a3⟩:=a0.get gy;obtain⟨w,hw,a1⟩:=a8.get gz;have t:acc.length=i:=by rw[<-P.length,tr.1]
  have L:∀b∈z3 n,b<s.heap.objs.size:=λb hb=>by
   have:∃o,s.heap.get? b=some o:=by
    simp only[z3,zY4,zZ8,z32]at hb;obtain⟨o1,U,_⟩:=Z.i1;obtain⟨o2,q2,_⟩:=Z.i2;obtain⟨o3,q3,_⟩:=Z.i3;rcases hb with rfl|rfl|rfl|rfl|rfl|rfl
    ·exact⟨_,U⟩
    ·exact⟨_,q2⟩
    ·exact⟨_,q3⟩
    ·exact⟨_,Z.ti⟩
    ·exact⟨_,Z.to⟩
    ·exact⟨_,Z.z⟩
   obtain⟨o,q⟩:=this;exact zY5 q
  have main:∀(h':Heap) (p r a' W c':Value),wU h' n l1 l2 l3 (i+1) p r a' W c'->(∃(T:Nat) (ot:Obj),p=rawInt (T:Nat)/\h'.get? T=some ot/\T∉S::z3 n)->h'.get? s.heap.objs.size=some (tO3 u v w)->
    (∀c o,c∉z3 n->s.heap.get? c=some o->h'.get? c=some o)->wpAny (model X.prog X.w) A.in1 (updateSeq S (·.push (.ref s.heap.objs.size)) >>= λ_=>again (.builtin "list.extend.loop" ⟨[.ref S,.ref (n+5:Nat),.none],[]⟩))
     (λfin s'=>match fin with|.done f=>R (.ok f) s'|.again c'=>c'.quiet=true/\codeAny (model X.prog X.w) A c' R s') (λe s'=>R (.error e) s') {s with heap:=h'}:=by
   intro h' p r a' W c' j ⟨T,ot,hf,hT,g⟩ C h;have nT:H' s.heap.objs.size=none:=I.hok.fresh (zY1 _);have a5:H s.heap.objs.size=none:=by
    cases q:H s.heap.objs.size with
    |none=>rfl
    |some o=>rw[st _ _ q]at nT;cases nT
   have O:∀a o,H' a=some o->upd H' s.heap.objs.size (.tup [xs[i],ys[i],zs[i]]) a=some o:=λa o q=>by rw[zc (zh q nT)];exact q
   have J:=I.turnLay (t':=s.toks) (h':=h') (ch:=z3 n) (T:=s.heap.objs.size) (o:=.tup [xs[i],ys[i],zs[i]]) h (λb hb=>fz b hb H' (Q b hb)) (zY1 _) ⟨by show 3<=sizeLine;decide,[u,v,w],.cons ru (.cons a3 (.cons a1 .nil)),_,C,rfl,0,rfl⟩;have N:=h _ _ l G;have M:S<s.heap.objs.size:=zY5 G;have D:upd H' s.heap.objs.size (.tup [xs[i],ys[i],zs[i]]) S=none:=by rw[zc (zZ7 M)];exact nS
   obtain⟨e',a2⟩:∃e',(h'.update S (Obj.mapSeq (·.push (Value.ref s.heap.objs.size)))).get? S=some {cls:=.type "list",dict:=none,data:=.seq (acc++[Value.ref s.heap.objs.size]).toArray e',slots:=#[]}:=by
    have:=z61 (c:="list") N λx=>x.push (Value.ref s.heap.objs.size);rw[List.push_toArray]at this;exact⟨_,this⟩
   refine zX5 ?_;refine z78 N rfl (zY3 ⟨z84 z69 _,ih (i+1) _ (cN hk) m ⟨_,acc++[.ref s.heap.objs.size],vs++[.ref s.heap.objs.size],e',p,r,a',W,c',
    J.turnL (t':=s.toks) (ch:=[S]) (λb o hb q=>(zZ2 _ _ (z24 (by simpa using hb))).trans q) (λb hb=>by rw[zY2.mp hb];exact fS _ D),λa o q=>O _ _ (st a o q),a2,D,λb hb=>?_,?_,.inr ⟨T,ot,hf,?_,g⟩,P.append (.cons (show RelV (.ref s.heap.objs.size) (.ref s.heap.objs.size)from rfl) .nil),tr.snoc O gx gy gz zf a5⟩⟩)
    (by rw[zZ0,t,z29];lia) (by show(acc.toArray.push _).size<=sizeLine+1;rw[Array.size_push,zZ0,t,z29];lia)
   ·rw[zc]
    ·exact Q b hb
    ·exact zZ7 (L b hb)
   ·have d:∀b o,b≠S->h'.get? b=some o->(h'.update S (Obj.mapSeq (·.push (Value.ref s.heap.objs.size)))).get? b=some o:=λb o hb q=>(zZ2 _ _ (z24 hb)).trans q;simp only[z3,zY4,zZ8,z32,not_or]at l;obtain⟨d1,d2,d3,d4,d5,d6⟩:=l;exact⟨d _ _ (z24 d6) j.z,d _ _ (z24 d4) j.ti,d _ _ (z24 d5) j.to,j.i1.at λo q=>d _ o (z24 d1) q,j.i2.at λo q=>d _ o (z24 d2) q,j.i3.at λo q=>d _ o (z24 d3) q⟩
   ·exact(zZ2 _ _ (λz=>g (by rw[<-z];exact zY9))).trans hT
  rcases fr with⟨_,rfl⟩|⟨T,ot,rfl,hT,g⟩
  ·refine zX5 (nZ Y h2 h3 Z p1.isList p2.isList p3.isList (by simpa using hu) (by simpa using hv) (by simpa using hw) λh' j C h=>?_);refine main h' _ _ _ _ _ j ⟨s.heap.objs.size,_,rfl,C,?_⟩ C h;intro z;rcases zY4.mp z with z|z
   ·exact absurd (zY5 G) (by rw[<-z];exact z33 _)
   ·exact absurd (L _ z) (z33 _)
  ·refine zX5 (ka Y h2 h3 Z hT p1.isList p2.isList p3.isList (by simpa using hu) (by simpa using hv) (by simpa using hw) λh' r j C h=>?_);exact main h' _ _ _ _ _ j ⟨T,ot,rfl,h _ _ (λz=>g (zY6 _ z)) hT,g⟩ C h
end
theorem rJ (a b c:Value):checkTypeCall "zip" ⟨[a,b,c],[]⟩=pure ():=by kernel_rfl
theorem qo (a b c:Value):checkBuiltinCall "zip.__new__" ⟨[.type "zip",a,b,c],[]⟩=pure ():=by kernel_rfl
theorem vT (a b c d:Value):argsOk "object.__init__" ⟨[a,b,c,d],[]⟩:=by unfold argsOk;rw[signature?_of (id:="object.__init__") (n:=['_','_','t','i','n','i','_','_']) (o:=['t','c','e','j','b','o']) (by kernel_rfl) PySem.F.owner_object];kernel_rfl
theorem kF :typeLookup (.type "zip") "__len__"=pure none:=by rw[ye0,ya2];kernel_rfl
theorem nr :typeLookup (.type "zip") "__length_hint__"=pure none:=by rw[ye0,ya2];kernel_rfl
abbrev itO (l:Addr):Obj:={cls:=.type "list_iterator",data:=.fields #[.ref l,.int 0 0]}
abbrev zh3 (h:Heap)(l1 l2 l3:Addr):Heap:=((h.push (itO l1)).push (itO l2)).push (itO l3)
abbrev zh4 (h:Heap)(l1 l2 l3:Addr):Heap:=(zh3 h l1 l2 l3).push (tO3 (.ref h.objs.size) (.ref (h.push (itO l1)).objs.size) (.ref ((h.push (itO l1)).push (itO l2)).objs.size))
abbrev zh5 (h:Heap)(l1 l2 l3:Addr):Heap:=(zh4 h l1 l2 l3).push (tO3 .none .none .none)
abbrev zh6 (h:Heap)(l1 l2 l3:Addr):Heap:=(zh5 h l1 l2 l3).push (zO .none (.bool false) (zh3 h l1 l2 l3).objs.size (zh4 h l1 l2 l3).objs.size)
theorem rY (l1 l2 l3:Addr)(xs ys zs:Array Value):
  Meets (Builtin.«zip.__new__» ⟨[.type "zip",.ref l1,.ref l2,.ref l3],[]⟩) (λ_ R s=>s.heap.IsList l1 xs/\s.heap.IsList l2 ys/\s.heap.IsList l3 zs/\
   R (.ok (.ret (.ref (zh5 s.heap l1 l2 l3).objs.size))) {s with heap:=zh6 s.heap l1 l2 l3}):=
 .of_wp λprog w A R s h=>by
  obtain⟨f,g,d,tk,os⟩:=s;obtain⟨i,e,j,h⟩:=h;have k:=sub_zip;have b:Heap.IsList (Shared.heap ⟨f,g,d,tk,os⟩) l1 xs:=i;have a:Heap.IsList (Shared.heap ⟨f.push {cls:=.type "list_iterator",data:=.fields #[.ref l1,.int 0 0]},g,d,tk,os⟩) l2 ys:=Heap.IsList.push e _;have c:Heap.IsList (Shared.heap ⟨(f.push {cls:=.type "list_iterator",data:=.fields #[.ref l1,.int 0 0]}).push {cls:=.type "list_iterator",data:=.fields #[.ref l2,.int 0 0]},g,d,tk,os⟩) l3 zs:=Heap.IsList.push (Heap.IsList.push j _) _
  wp_walk using z67 b,z67 a,z67 c
  exact⟨_,rfl,h⟩
section
variable {prog:Program}{w:World}{A:Around}{E:Value->Shared->Prop}{s:Shared}
theorem kX {l1 l2 l3:Addr}{xs ys zs:Array Value}{Q:Value->Shared->Prop}(g:s.heap.IsList l1 xs)(e:s.heap.IsList l2 ys)(j:s.heap.IsList l3 zs)
  (h:∀h',wU h' s.heap.objs.size l1 l2 l3 0 .none (.bool false) .none .none .none->h'.objs.size=s.heap.objs.size+6->(∀c o,s.heap.get? c=some o->h'.get? c=some o)->Q (.ref (s.heap.objs.size+5)) {s with heap:=h'}):
  wpAny (model prog w) A (call (.type "zip") [.ref l1,.ref l2,.ref l3]) Q E s:=by
 refine callType_new PySem.F.called_zip (by decide) (rJ _ _ _) (qo _ _ _) (λobj=>vT obj _ _ _) PySem.F.entry_zip_new
  (rY l1 l2 l3 xs ys zs) ⟨g,e,j,?_⟩
 have k:(s.heap.push (itO l1)).objs.size=s.heap.objs.size+1:=z54 ..;have d:((s.heap.push (itO l1)).push (itO l2)).objs.size=s.heap.objs.size+2:=by rw[z54,k]
 have a:(zh3 s.heap l1 l2 l3).objs.size=s.heap.objs.size+3:=by rw[z54,d]
 have i:(zh4 s.heap l1 l2 l3).objs.size=s.heap.objs.size+4:=by rw[z54,a]
 have f:(zh5 s.heap l1 l2 l3).objs.size=s.heap.objs.size+5:=by rw[z54,i]
 have n:(zh6 s.heap l1 l2 l3).objs.size=s.heap.objs.size+6:=by rw[z54,f]
 have b:(zh6 s.heap l1 l2 l3).get? (zh5 s.heap l1 l2 l3).objs.size=some _:=zY7 _ rfl;have l:(zh6 s.heap l1 l2 l3).get? (zh4 s.heap l1 l2 l3).objs.size=some _:=zX6 _ (zY7 _ rfl);have m:(zh6 s.heap l1 l2 l3).get? (zh3 s.heap l1 l2 l3).objs.size=some _:=zX6 _ (zX6 _ (zY7 _ rfl));have g3:(zh6 s.heap l1 l2 l3).get? ((s.heap.push (itO l1)).push (itO l2)).objs.size=some _:=zX6 _ (zX6 _ (zX6 _ (zY7 _ rfl)));have g2:(zh6 s.heap l1 l2 l3).get? (s.heap.push (itO l1)).objs.size=some _:=zX6 _ (zX6 _ (zX6 _ (zX6 _ (zY7 _ rfl))));have g1:(zh6 s.heap l1 l2 l3).get? s.heap.objs.size=some _:=zX6 _ (zX6 _ (zX6 _ (zX6 _ (zX6 _ (zY7 _ rfl)))));show _/\_;rw[f,i,a]at b;rw[i]at l;rw[a,d,k]at m;rw[d]at g3;rw[k]at g2;rw[f];exact⟨⟨_,b,rfl⟩,h _ ⟨b,m,l,⟨_,g1,rfl,rfl⟩,⟨_,g2,rfl,rfl⟩,⟨_,g3,rfl,rfl⟩⟩ n λc o x=>
  zX6 _ (zX6 _ (zX6 _ (zX6 _ (zX6 _ (zX6 _ x)))))⟩
end
section
variable {X:Cx}{pins:List (Addr×Obj)}{σ:St}{H:Hp}{s:Shared}
theorem eZ {A:Around}{R:Result->Shared->Prop}{n l1 l2 l3:Nat}{S:Addr}{xs ys zs:List V}(Q:A.handled=none)(P:l1<n)(h2:l2<n)(h3:l3<n)(I:Inv X pins σ H s)(Z:wU s.heap n l1 l2 l3 0 .none (.bool false) .none .none .none)(y:s.heap.get? S=some {cls:=.type "list",data:=.seq #[]})
  (u:H S=none) (U:∀b∈z3 n,H b=none) (B:∀H',H' S=none->xi X pins H' S) (fz:∀b∈z3 n,∀H',H' b=none->xi X pins H' b) (r:S∉z3 n)
  (q1:SqL X.K H l1 xs) (N:SqL X.K H l2 ys) (q3:SqL X.K H l3 zs) (W:ys.length=xs.length) (e3:zs.length=xs.length) (h0:0<xs.length) (Y:xs.length<=1000)
  (hR:∀s',zB0 X pins σ H S xs ys zs s'->R (.ok (.ret .none)) s'):
  wpAny (model X.prog X.w) A.in1 (Builtin.«list.__init__» ⟨[.ref S,.ref (n+5:Nat)],[]⟩)
   (λfin s'=>match fin with|.done f=>R (.ok f) s'|.again c'=>c'.quiet=true/\codeAny (model X.prog X.w) A c' R s') (λe s'=>R (.error e) s') s:=by
 have k:=r;simp only[z3,zY4,zZ8,z32,not_or]at k;obtain⟨E,J,L,C,D,t⟩:=k;show wpAny _ _ (do let old <-Builtin.List.listItems (.ref S);Builtin.List.listUpdate (.ref S) (λ_=>#[]);letGo old.toList.reverse;Builtin.List.listExtendWith (.ref S) (.ref (n+5:Nat)) .none) _ _ s;refine zX5 ?_;unfold Builtin.List.listItems;refine zX5 (z49 y rfl (zY3 ?_));show wpAny _ _ (updateSeq S (λ_=>#[]) >>= λ_=>letGo (#[]:Array Value).toList.reverse >>= λ_=>Builtin.List.listExtendWith (.ref S) (.ref (n+5:Nat)) .none) _ _ s;refine zX5 (z78 y rfl ?_);obtain⟨m,g⟩:∃m,(s.heap.update S (Obj.mapSeq (λ_=>(#[]:Array Value)))).get? S=some {cls:=.type "list",dict:=none,data:=.seq #[] m,slots:=#[]}:=⟨_,z61 (c:="list") y λ_=>#[]⟩;have d:∀b o,b≠S->s.heap.get? b=some o->(s.heap.update S (Obj.mapSeq (λ_=>(#[]:Array Value)))).get? b=some o:=
  λb o hb e=>(zZ2 _ _ (z24 hb)).trans e
 have p:wU (s.heap.update S (Obj.mapSeq (λ_=>(#[]:Array Value)))) n l1 l2 l3 0 .none (.bool false) .none .none .none:=⟨d _ _ (z24 t) Z.z,d _ _ (z24 C) Z.ti,d _ _ (z24 D) Z.to,Z.i1.at λo q=>d _ o (z24 E) q,Z.i2.at λo q=>d _ o (z24 J) q,Z.i3.at λo q=>d _ o (z24 L) q⟩;refine zX5 (z95 ?_);have G:Inv X pins σ H {s with heap:=s.heap.update S (Obj.mapSeq (λ_=>(#[]:Array Value))),toks:=s.toks}:=I.turnL (ch:=[S]) (λb o hb q=>d b o (by simpa using hb) q) λb hb=>by rw[zY2.mp hb];exact B H u
 have hT:({s with heap:=s.heap.update S (Obj.mapSeq (λ_=>(#[]:Array Value)))}:Shared).TypeIs (.ref (n+5:Nat)) "zip":=⟨_,p.z,rfl⟩;unfold Builtin.List.listExtendWith;refine zX5 (yh6 hT ?_);have M:Builtin.List.listSameRef (.ref S) (.ref (n+5:Nat))=false:=by simp[Builtin.List.listSameRef];exact t
 have T:(Value.type "zip" == Value.type "list")=false:=by decide
 have O:(Value.type "zip" == Value.type "tuple")=false:=by decide
 simp only[M,T,O,yd2,z27,z73];refine zX5 (wpAny_pyIter_slot hT PySem.F.slot_zip_iter (yd0 PySem.F.slot_zip_iter hT PySem.F.entry_zip_iter ?_ (PySem.F.args_zip_iter_1 _)));show wpAny _ _ (ret (.ref (n+5:Nat))) _ _ _;refine zY3 ⟨_,rfl,"zip",_,hT,z70.lookup,?_⟩;refine zX5 (z34 ?_);unfold Builtin.List.listLengthHint;refine zX5 (yd8 hT kF ?_);show wpAny _ _ (specialOf (Value.ref (n+5:Nat)) (Str.ofString "__length_hint__") >>= _) _ _ _;refine zX5 (yd8 hT nr ?_);refine zY3 ?_;have key:∀(h:Heap) (e:Nat),h.get? S=some {cls:=.type "list",dict:=none,data:=.seq #[] e,slots:=#[]}->(∀b o,b≠S->s.heap.get? b=some o->h.get? b=some o)->codeAny (model X.prog X.w) A (.builtin "list.extend.loop" ⟨[.ref S,.ref (n+5:Nat),.none],[]⟩) R {s with heap:=h}:=by
  intro h e v a;refine gQ Q P h2 h3 B fz r q1 N q3 W e3 h0 Y hR xs.length 0 _ (by lia) (zZ4 _) ⟨H,[],[],e,.none,.bool false,.none,.none,.none,I.turnL (t':=s.toks) (ch:=[S]) (λb o hb q=>a b o (by simpa using hb) q) (λb hb=>by rw[zY2.mp hb];exact B H u),λ_ _ e=>e,v,u,U,?_,.inl ⟨rfl,rfl⟩,.nil,rfl,λj hj=>absurd hj (Nat.not_lt_zero _)⟩;exact⟨a _ _ (z24 t) Z.z,a _ _ (z24 C) Z.ti,a _ _ (z24 D) Z.to,Z.i1.at λo q=>a _ o (z24 E) q,Z.i2.at λo q=>a _ o (z24 J) q,Z.i3.at λo q=>a _ o (z24 L) q⟩
 refine yb5 (λ_=>?_) (λ_=>zY3 ⟨z84 z69 _,key _ _ g d⟩);refine zX5 (wpAny_rule ?_);refine zX5 ?_;show wpAny _ _ (updateSeq S (·.push .none) >>= λ_=>updateSeq S (·.pop)) _ _ _;refine zX5 (z78 g rfl ?_);obtain⟨a1,i⟩:∃m,((s.heap.update S (Obj.mapSeq (λ_=>(#[]:Array Value)))).update S (Obj.mapSeq (·.push Value.none))).get? S=some {cls:=.type "list",dict:=none,data:=.seq #[.none] m,slots:=#[]}:=⟨_,z61 (c:="list") g λx=>x.push Value.none⟩;refine z78 (hz:=by seq_fits) i rfl ?_;obtain⟨a0,l⟩:∃m,(((s.heap.update S (Obj.mapSeq (λ_=>(#[]:Array Value)))).update S (Obj.mapSeq (·.push Value.none))).update S (Obj.mapSeq (·.pop))).get? S=some {cls:=.type "list",dict:=none,data:=.seq #[] m,slots:=#[]}:=⟨_,z61 (c:="list") i λx=>x.pop⟩;refine zY3 ⟨z84 z69 _,key _ _ l λb o hb e=>?_⟩;exact(zZ2 _ _ (z24 hb)).trans ((zZ2 _ _ (z24 hb)).trans (d b o hb e))
end
section
variable {X:Cx}{pins:List (Addr×Obj)}{σ:St}{H:Hp}{s:Shared}
theorem sy {A:Around}{E:Value->Shared->Prop}{Q:Value->Shared->Prop}{n l1 l2 l3:Nat}{xs ys zs:List V}(m:A.handled=none)(l:l1<n)(v:l2<n)(B:l3<n)(I:Inv X pins σ H s)(Z:wU s.heap n l1 l2 l3 0 .none (.bool false) .none .none .none)
  (p:∀b∈z3 n,H b=none) (fz:∀b∈z3 n,∀H',H' b=none->xi X pins H' b)
  (f:SqL X.K H l1 xs) (d:SqL X.K H l2 ys) (i:SqL X.K H l3 zs) (r:ys.length=xs.length) (y:zs.length=xs.length) (h0:0<xs.length) (t:xs.length<=1000)
  (x:∀D s',s.heap.objs.size<=D->zB0 X pins σ H D xs ys zs s'->(∀H',H' D=none->xi X pins H' D)->Q (.ref D) s'):
  wpAny (model X.prog X.w) A (call (.type "list") [.ref (n+5:Nat)]) Q E s:=by
 refine callType_codes (Q₁:=λobj a=>obj=.ref s.heap.objs.size/\a={s with heap:=s.heap.push {cls:=.type "list",data:=.seq #[]}}) PySem.F.called_list (PySem.F.typeCall_list_1 _) PySem.F.entry_list_init
  (code_list_new _ ⟨rfl,rfl⟩) λobj a c=>?_
 obtain⟨rfl,rfl⟩:=c;have j:(s.heap.push {cls:=.type "list",data:=.seq #[]}).get? s.heap.objs.size=some {cls:=.type "list",data:=.seq #[]}:=zY7 _ rfl;have up:∀b o,s.heap.get? b=some o->(s.heap.push {cls:=.type "list",data:=.seq #[]}).get? b=some o:=λb o e=>zX6 _ e;have k:∀H':Hp,H' s.heap.objs.size=none->xi X pins H' s.heap.objs.size:=λH' h=>I.fpOk (zY1 _) h;have g:s.heap.objs.size∉z3 n:=λhb=>by
  have:∃o,s.heap.get? s.heap.objs.size=some o:=by
   simp only[z3,zY4,zZ8,z32]at hb;obtain⟨J,f,_⟩:=Z.i1;obtain⟨C,d,_⟩:=Z.i2;obtain⟨G,i,_⟩:=Z.i3;rcases hb with z|z|z|z|z|z<;>rw[z]
   ·exact⟨_,f⟩
   ·exact⟨_,d⟩
   ·exact⟨_,i⟩
   ·exact⟨_,Z.ti⟩
   ·exact⟨_,Z.to⟩
   ·exact⟨_,Z.z⟩
  obtain⟨o,q⟩:=this;exact absurd (zY5 q) (z33 _)
 refine⟨⟨_,j,rfl⟩,PySem.F.args_list_init_2 _ _,eZ (A:=A.in1) m l v B (I.kept (t':=s.toks) up) ⟨up _ _ Z.z,up _ _ Z.ti,up _ _ Z.to,Z.i1.at λo q=>up _ o q,Z.i2.at λo q=>up _ o q,Z.i3.at λo q=>up _ o q⟩ j (I.hok.fresh (zY1 _)) p k fz g f d i r y h0 t λs' u=>⟨rfl,x _ s' (zY1 _) u k⟩⟩
variable {a b c:Expr}{p p0 pos pos2:Pos}
theorem lF {J:TA}(W:X.calm=true)(hgl:Gl X "list")(x:X.mg "list"=none)(hg:Gl X "zip")(hm:X.mg "zip"=none)(ha:PA X [a,b,c] J)
  (l:starEach [.Call (.Name "zip" p) [a,b,c] [] pos2] X.env=[(false,eval (.Call (.Name "zip" p) [a,b,c] [] pos2) X.env)]:=by rfl)
  (hs:starEach [a,b,c] X.env=(false,eval a X.env)::starEach [b,c] X.env:=by rfl) (hpl:(backTo pos2 (starEach [b,c] X.env)).any (·.1)=false:=by rfl):
  PE X (.Call (.Name "list" p0) [.Call (.Name "zip" p) [a,b,c] [] pos2] [] pos) (λσ H Q=>J σ H λvs H1=>∃(l1 l2 l3:Addr) (xs ys zs:List V),vs=[.ref l1,.ref l2,.ref l3]/\SqL X.K H1 l1 xs/\SqL X.K H1 l2 ys/\SqL X.K H1 l3 zs/\ys.length=xs.length/\zs.length=xs.length/\0<xs.length/\xs.length<=1000/\
   ∀D H' vs,H1 D=none->(∀a o,H1 a=some o->H' a=some o)->H' D=some (.lst vs)->(∃t,(∀a o,t a=some o->a≠D/\H' a=some o)/\Tri H1 t xs ys zs vs xs.length)->Q (.ref D) H'):=by
 intro pins s σ H Q I h;refine Call_ (yT I hgl x boot_list (z30 ?_ l rfl));rw[l];show wpAny _ _ (spliced ((false,eval _ X.env)::backTo pos [])) _ _ s;refine Calls.spliced_cons ?_;refine Call_ (yT I hg hm boot_zip (z30 (thn (ha pos2 pins s σ H _ I h) λus s1 y=>?_) hs hpl));obtain⟨vs,H1,f,d,q1⟩:=y;obtain⟨l1,l2,l3,xs,ys,zs,e,g,k,r,U,e3,h0,P,q⟩:=q1;subst e;obtain⟨u,v,w,rfl,ru,S,B⟩:∃u v w,us=[u,v,w]/\RelV (.ref l1) u/\RelV (.ref l2) v/\RelV (.ref l3) w:=by
  cases d with
  |cons a d=>
   cases d with
   |cons b d=>
    cases d with
    |cons c d=>
     cases d;exact⟨_,_,_,rfl,a,b,c⟩
 cases(show u=Value.ref l1 from ru);cases(show v=Value.ref l2 from S);cases(show w=Value.ref l3 from B);obtain⟨M,a2,p1,a3⟩:=f.list g;obtain⟨R,Y,p2,a0⟩:=f.list k;obtain⟨O,a4,p3,a1⟩:=f.list r;refine kX p1.isList p2.isList p3.isList λh' Z sz hk=>?_;have C:l1<s1.heap.objs.size:=by obtain⟨o,e,_⟩:=p1.isList;exact zY5 e
 have F:l2<s1.heap.objs.size:=by obtain⟨o,e,_⟩:=p2.isList;exact zY5 e
 have G:l3<s1.heap.objs.size:=by obtain⟨o,e,_⟩:=p3.isList;exact zY5 e
 have le:∀b∈z3 s1.heap.objs.size,s1.heap.objs.size<=b:=λb hb=>by
  simp only[z3,zY4,zZ8,z32]at hb;have key:∀n b:Nat,(b=n\/b=n+1\/b=n+2\/b=n+3\/b=n+4\/b=n+5)->n<=b:=λn b h=>by lia
  exact key _ _ hb
 have N:Inv X pins σ H1 {s1 with heap:=h',toks:=s1.toks}:=f.kept λb o e=>hk b o e;refine z26 (Q:=_) (show wpAny _ _ (spliced []) (λvs i=>vs=[]/\i={s1 with heap:=h'}) X.xe {s1 with heap:=h'}from zY3 ⟨rfl,rfl⟩) (λvs s2 hv=>?_) λ_ _ z=>z;obtain⟨rfl,rfl⟩:=hv;refine sy (s:={s1 with heap:=h'}) (I.ok.hd W) C F G N Z (λb hb=>f.hok.fresh (le b hb)) (λb hb H' hn=>f.fpOk (le b hb) hn) g k r U e3 h0 P λD s' T ze fD=>?_;obtain⟨H',acc,vs,e,I',st,hD,L,A,j⟩:=ze.ex;have E:H1 D=none:=N.hok.fresh T;have m:∀a o,H' a=some o->a≠D/\upd H' D (.lst vs) a=some o:=λa o q=>by
  have n:a≠D:=λz=>by rw[z,L]at q;cases q
  exact⟨n,by rw[zc n];exact q⟩
 refine⟨.ref D,upd H' D (.lst vs),I'.adopt (fD H' L) ⟨?_,acc,e,A,hD⟩,rfl,q D _ vs E (λa o q=>(m a o (st a o q)).2) zf ⟨H',m,j⟩⟩;rw[j.1,z29];exact zT6 P
end
def zr1 (a b c:PyData):PyData:=.tuple [a,b,c]
def wQ :List PyData->List PyData->List PyData->List PyData
 |a::as,b::bs,c::cs=>zr1 a b c::wQ as bs cs
 |_,_,_=>[]
theorem uR :∀{as bs cs:List PyData},bs.length=as.length->cs.length=as.length->(wQ as bs cs).length=as.length
 |[],_,_,_,_=>rfl
 |a::as,b::bs,c::cs,e,d=>by rw[wQ,z00,z00,uR (by simpa using e) (by simpa using d)]
theorem uK :∀{as bs cs:List PyData}{j:Nat}{d:PyData},(wQ as bs cs)[j]?=some d->∃a b c,as[j]?=some a/\bs[j]?=some b/\cs[j]?=some c/\d=zr1 a b c
 |[],_,_,j,d,h=>by simp[wQ]at h
 |a::as,[],_,j,d,h=>by simp[wQ]at h
 |a::as,b::bs,[],j,d,h=>by simp[wQ]at h
 |a::as,b::bs,c::cs,0,d,h=>by simp[wQ]at h;exact⟨a,b,c,rfl,rfl,rfl,h.symm⟩
 |a::as,b::bs,c::cs,j+1,d,h=>by
  obtain⟨x,y,z,e1,g,f,e⟩:=uK (as:=as) (bs:=bs) (cs:=cs) (j:=j) (d:=d) (by simpa[wQ]using h);exact⟨x,y,z,by simpa using e1,by simpa using g,by simpa using f,e⟩
theorem jU {G:Hp}:∀{vs:List V}{ds:List PyData},vs.length=ds.length->(∀(j:Nat) d,ds[j]?=some d->∃v,vs[j]?=some v/\AV G v d)->AVs G vs ds
 |[],[],_,_=>.nil
 |v::vs,d::ds,b,h=>by
  obtain⟨c,e,a⟩:=h 0 d rfl;cases e;exact .cons a (jU (by simpa using b) λj d' hd=>h (j+1) d' (by simpa using hd))
section
variable {X:Cx}{α:Ev}{a b c:Expr}{p p0 pos pos2:Pos}
theorem lJ {Q:List PyData->Prop}(L:X.calm=true)(hgl:Gl X "list")(n:X.mg "list"=none)(hg:Gl X "zip")(hm:X.mg "zip"=none)
  (h:EvA X α [a,b,c] λas=>∃ds l fs,as=[.dat (.list ds),.dat (.list l),.dat (.list fs)]/\l.length=ds.length/\fs.length=ds.length/\0<ds.length/\ds.length<=1000/\Q (wQ ds l fs))
  (s:starEach [.Call (.Name "zip" p) [a,b,c] [] pos2] X.env=[(false,eval (.Call (.Name "zip" p) [a,b,c] [] pos2) X.env)]:=by rfl)
  (hs:starEach [a,b,c] X.env=(false,eval a X.env)::starEach [b,c] X.env:=by rfl) (hpl:(backTo pos2 (starEach [b,c] X.env)).any (·.1)=false:=by rfl):
  EvL X α (.Call (.Name "list" p0) [.Call (.Name "zip" p) [a,b,c] [] pos2] [] pos) Q:=λF σ H R m k=>by
 refine⟨_,lF L hgl n hg hm yv s hs hpl,?_⟩;refine h F σ H _ m λas vs H1 W t1 k1 f=>?_;have m1:=m.kz k1 t1;obtain⟨ds,l,fs,rfl,l2,l3,S,Y,q⟩:=W;cases f with
 |cons G f=>
  cases f with
  |cons r2 f=>
   cases f with
   |cons V f=>
    cases f;obtain⟨a1,xs,rfl,g1,C⟩:=AV.lst_inv G;obtain⟨a2,ys,rfl,g2,E⟩:=AV.lst_inv r2;obtain⟨N,zs,rfl,g3,A⟩:=AV.lst_inv V;have g:=C.length;have y2:=E.length;have P:=A.length;refine⟨a1,a2,N,xs,ys,zs,rfl,SqL.of (zb g1).2,SqL.of (zb g2).2,SqL.of (zb g3).2,(y2.trans (l2.trans g.symm)),(P.trans (l3.trans g.symm)),(zX8 S (zZ5 g.symm)),(zY8 (zZ5 g) Y),λD H' vs hD st u tr=>?_⟩;obtain⟨a0,T,i⟩:=tr;have w:zw H1 H':=λa o e=>st a o e;refine k _ _ H' q (t1.same w) (k1.trans (Kz.of_same w)) ⟨D,vs,rfl,?_,u,?_⟩
    ·cases z:H D with
     |none=>rfl
     |some o=>rw[k1 D o z (m.tp.nt (ow0 (m1.fresh hD)))]at hD;cases hD
    ·have r:zw (Gz F α σ H1) (sub (λx=>¬Ow F α σ x/\x≠D) H'):=zm λa o h e=>⟨⟨h,zh e hD⟩,st a o e⟩;refine jU (by rw[i.1,uR l2 l3];exact g) λj d hd=>?_;obtain⟨d1,d2,d3,e1,K,e3,rfl⟩:=uK hd;have hj:j<xs.length:=by rw[g];exact(zX9.mp e1).1
     obtain⟨t,x,y,z,f1,f2,U,f4,J,Z⟩:=i.2 j hj;obtain⟨x',ex,M⟩:=C.get e1;obtain⟨y',v,O⟩:=E.get K;obtain⟨z',B,az⟩:=A.get e3;rw[f2]at ex;cases ex;rw[U]at v;cases v;rw[f4]at B;cases B;obtain⟨nt,I⟩:=T t _ J;exact⟨_,f1,.tup (zu ⟨m1.fresh Z,nt⟩ I) (.cons (M.same r) (.cons (O.same r) (.cons (az.same r) .nil)))⟩
theorem kf {ns:List Int}{its:List Value}(h:Vals (ns.map V.int) its):∃ps:List (Int×Tok),its=ps.map (λp=>Value.int p.1 p.2)/\ps.map (·.1)=ns:=by
 induction ns generalizing its with
 |nil=>cases h;exact⟨[],rfl,rfl⟩
 |cons n ns e=>cases h with
  |cons h d=>
   obtain⟨ps,e1,f⟩:=e d;obtain⟨t,rfl⟩:=h;exact⟨(n,t)::ps,by rw[e1];rfl,by rw[<-f];rfl⟩
theorem sS (ps:List (Int×Tok))(k:Nat):numAt ps.toArray k=(ps.map (·.1)).getD k 0:=by
 unfold numAt;rw[yc1,z08,zZ1]
theorem vq (ps:List (Int×Tok)):∀k,k<=ps.length->preSum (numAt ps.toArray) k=((ps.map (·.1)).take k).sum
 |0,_=>by simp[preSum]
 |k+1,h=>by
  have hk:k<(ps.map (·.1)).length:=by rw[zX7];exact zX8 (z52 _) h
  rw[preSum,vq ps k (zY8 (zZ3 _ _) h),sS,z45,zY0 hk,List.sum_append,z08,zY0 hk];simp
def Fits (ns:List Int):Prop:=∀k,k<=ns.length->-(2 ^ 62)<=(ns.take k).sum/\(ns.take k).sum<2 ^ 62
theorem eQ (i:X.calm=true):yI X (.builtin "sum") (λxs H Q=>∃(l:Addr) (ns:List Int),xs=[.ref l]/\SqL X.K H l (ns.map V.int)/\(∀n∈ns,-(2 ^ 62)<=n/\n<2 ^ 62)/\Fits ns/\Q (.int ns.sum) H):=by
 intro pins s σ H xs us Q I r h;obtain⟨l,ns,rfl,k,hb,hf,q⟩:=h;obtain⟨u,rfl,m⟩:=Vals.one r;cases(show u=Value.ref l from m);obtain⟨its,o,p,hz⟩:=I.list k;obtain⟨ps,rfl,rfl⟩:=kf o;have t:s.heap.IsList l (intItems ps.toArray):=by
  have:=p.isList
  rwa [show intItems ps.toArray=(ps.map λp=>Value.int p.1 p.2).toArray by simp[intItems]]
 refine sum_intList (I.ok.hd i) t (λj v=>?_) λh' tk t' hk=>?_
 ·have d:j<ps.length:=by simpa using v
  have hk:j<(ps.map (·.1)).length:=by rw[zX7];exact d
  rw[vq ps (j+1) (d),sS,z08,zY0 hk];have g:=hb _ (z93 hk);have e:=hf (j+1) (hk);refine⟨⟨?_,?_⟩,?_,?_⟩
  ·show -(2 ^ 63)<=(ps.map (·.1))[j];exact zy6 g.1
  ·show(ps.map (·.1))[j]<2 ^ 63;exact zt0 g.2
  ·exact zy6 e.1
  ·exact zt0 e.2
 ·rw[show preSum (numAt ps.toArray) ps.toArray.size=(ps.map (·.1)).sum by rw[zZ0,vq ps ps.length (zY1 _),<-zX7 (f:=(·.1)) (as:=ps),z40]];exact⟨.int _,H,I.kept (t':=tk) hk,⟨_,rfl⟩,q⟩
theorem zh7 {Q:PyData->Prop}{e:Expr}(g:X.calm=true)(hg:Gl X "sum")(hm:X.mg "sum"=none)(h:EvD X α e λx=>∃ns:List Int,x=.list (ns.map .int)/\(∀n∈ns,-(2 ^ 62)<=n/\n<2 ^ 62)/\Fits ns/\Q (.int ns.sum))(he:starEach [e] X.env=(false,eval e X.env)::starEach [] X.env:=by rfl):
  EvD X α (.Call (.Name "sum" p) [e] [] pos) Q:=by
 refine xA (eQ g) hg hm boot_sum (zq (h.imp λx d=>?_) he) (he:=he);obtain⟨ns,e1,hb,hf,q⟩:=d;refine zH ?_;intro F σ H vs R m i k;subst e1;obtain⟨v,rfl,av⟩:=i.one;obtain⟨a,xs,rfl,j,f⟩:=av.lst_inv;cases f.ints;exact⟨a,ns,rfl,SqL.of (zb j).2,hb,hf,k _ _ H q m.tp Kz.refl (.int _)⟩
end
def wM :List Int->List Bool->List Int
 |z::zs,b::bs=>if b=true then wM zs bs else z::wM zs bs
 |_,_=>[]
theorem vE :∀{zs:List Int}{bs:List Bool}{z:Int},z∈wM zs bs->z∈zs
 |[],_,z,h=>by simp[wM]at h
 |y::zs,[],z,h=>by simp[wM]at h
 |y::zs,b::bs,z,h=>by
  rw[wM]at h;split at h
  ·exact zY6 _ (vE h)
  ·rcases zY4.mp h with e|h
   ·rw[e];exact zY9
   ·exact zY6 _ (vE h)
theorem qu :∀(zs:List Int) (bs:List Bool),(wM zs bs).length<=zs.length
 |[],_=>by simp[wM]
 |y::zs,[]=>by simp[wM]
 |y::zs,b::bs=>by
  rw[wM];have:=qu zs bs;split
  ·rw[z00];exact zY8 this (zZ3 _ _)
  ·rw[z00,z00];exact Nat.add_le_add this (zY1 _)
theorem sum_bound :∀{ns:List Int}{m:Int},0<=m->(∀n∈ns,0<=n/\n<=m)->0<=ns.sum/\ns.sum<=ns.length*m
 |[],m,_,_=>by simp
 |n::ns,m,h0,h=>by
  obtain⟨a,b⟩:=sum_bound h0 λx c=>h x (zY6 _ c);have:=h n zY9;rw[List.sum_cons,z00,Int.natCast_add,Int.add_mul]
  constructor
  ·exact Int.add_nonneg this.1 a
  ·simp;exact zW9 this.2 b
theorem jo {ns:List Int}(h:∀n∈ns,0<=n/\n<=1000000000000)(c:ns.length<=1000):Fits ns:=λk hk=>by
 obtain⟨a,b⟩:=sum_bound (ns:=ns.take k) (m:=1000000000000) (by decide) λn hn=>h n (List.mem_of_mem_take hn);have:((ns.take k).length:Int)*1000000000000<=1000*1000000000000:=by
  apply Int.mul_le_mul_of_nonneg_right _ (by decide);rw[z46];exact zV1 c
 lia
def zG4 (p:Nat):PyData->PyData
 |.tuple [a,b,c]=>if p=1 then b else c
 |_=>.none
def tR :PyData->Bool
 |.tuple [_,_,.bool b]=>b
 |_=>false
theorem rS :∀{ds:List PyData}{zs:List Int}{bs:List Bool},zs.length=ds.length->bs.length=ds.length->((wQ ds (zs.map .int) (bs.map .bool)).filter λd=>!tR d).map (zG4 1)=(wM zs bs).map .int
 |[],[],[],_,_=>rfl
 |d::ds,z::zs,b::bs,e,c=>by
  have a:=rS (ds:=ds) (zs:=zs) (bs:=bs) (by simpa using e) (by simpa using c);rw[z03,z03,wQ,wM,ya9];cases b with
  |true=>simpa[tR,zr1]using a
  |false=>simp[tR,zr1,zG4];exact a
def du (d:PyData):Prop:=d=.none\/∃many free:Nat,d=.tuple [.int many,.int free]/\0<free/\free<many/\many<64
section
variable {κ:Type}[DecidableEq κ]
def yO (kvs:List (κ×V))(k:κ):Option V:=(kvs.find? λa=>decide (a.1=k)).map (·.2)
def putK (kvs:List (κ×V))(k:κ)(v:V):List (κ×V):=
 if(kvs.any λa=>decide (a.1=k))=true then kvs.map (λa=>if a.1=k then(a.1,v)else a)else kvs++[(k,v)]
theorem ya {p:κ×V}{r:List (κ×V)}{k:κ}(e:p.1=k):yO (p::r) k=some p.2:=by simp[yO,z60,e]
theorem zU {p:κ×V}{r:List (κ×V)}{k:κ}(e:¬p.1=k):yO (p::r) k=yO r k:=by simp[yO,z60,e]
theorem vg (k:κ):∀kvs:List (κ×V),(kvs.any λa=>decide (a.1=k))=(yO kvs k).isSome
 |[]=>rfl
 |p::r=>by
  rw[z83];by_cases e:p.1=k
  ·simp only[ya e,z28 e,Bool.true_or,Option.isSome_some]
  ·rw[zU e,z06 e,yi7];exact vg k r
theorem mD (k j:κ)(y:V):∀kvs:List (κ×V),yO (kvs.map λa=>if a.1=k then(a.1,y)else a) j=(yO kvs j).map λx=>if j=k then y else x
 |[]=>rfl
 |p::r=>by
  have b:=mD k j y r;rw[z03];by_cases h:p.1=k
  ·rw[if_pos h];by_cases e:p.1=j
   ·rw[ya (p:=(p.1,y)) e,ya e,yh7,if_pos (e.symm.trans h)]
   ·rw[zU (p:=(p.1,y)) e,zU e,b]
  ·rw[if_neg h];by_cases e:p.1=j
   ·rw[ya (p:=p) e,ya e,yh7,if_neg (λz=>h (e.trans z))]
   ·rw[zU (p:=p) e,zU e,b]
theorem pk (k j:κ)(y:V):∀kvs:List (κ×V),yO kvs k=none->yO (kvs++[(k,y)]) j=if j=k then some y else yO kvs j
 |[],_=>by
  by_cases e:k=j
  ·rw[if_pos e.symm];exact ya (p:=(k,y)) e
  ·rw[if_neg (λz=>e z.symm)];exact zU (p:=(k,y)) e
 |p::r,hn=>by
  rw[yc9];have hk:¬p.1=k:=λz=>by rw[ya z]at hn;cases hn
  rw[zU hk]at hn;have a:=pk k j y r hn;by_cases e:p.1=j
  ·rw[ya e,ya e,if_neg (λz=>hk (e.trans z))]
  ·rw[zU e,zU e,a]
theorem zc0 (kvs:List (κ×V))(k j:κ)(y:V):yO (putK kvs k y) j=if j=k then some y else yO kvs j:=by
 unfold putK;by_cases a:(kvs.any λb=>decide (b.1=k))=true
 ·rw[if_pos a,mD];rw[vg]at a;by_cases e:j=k
  ·obtain⟨x,c⟩:=ye3.mp a;rw[if_pos e,e,c,yh7,if_pos rfl]
  ·rw[if_neg e];cases yO kvs j with
   |none=>rfl
   |some x=>rw[yh7,if_neg e]
 ·rw[if_neg a];refine pk k j y kvs ?_;rw[vg]at a;cases q:yO kvs k with
  |none=>rfl
  |some x=>rw[q]at a;exact(a rfl).elim
theorem xI (kvs:List (κ×V))(k:κ)(v:V):(putK kvs k v).length<=kvs.length+1:=by
 unfold putK;split
 ·rw[zX7];exact zZ3 _ _
 ·rw[zZ9,z00,ye1];lia
theorem vJ.isSome_eq {o:Option V}{u:Option Value}(r:vJ o u):o.isSome=u.isSome:=by
 cases o with
 |none=>cases u with
  |none=>rfl
  |some _=>exact(show False from r).elim
 |some _=>cases u with
  |none=>exact(show False from r).elim
  |some _=>rfl
theorem KV.val {kvs:List (κ×V)}{vs:List (κ×Value)}(r:KV kvs vs)(k:κ):vJ (yO kvs k) (valueAt vs k):=by
 unfold KV at r
 induction r with
 |nil=>exact True.intro
 |@cons p q ps qs h t ih=>
  obtain⟨c,d⟩:=h;by_cases e:p.1=k
  ·have a:q.1=k:=c.symm.trans e;have b:valueAt (q::qs) k=some q.2:=by simp[valueAt,z60,a]
   rw[ya e,b];exact d
  ·have a:¬q.1=k:=λz=>e (c.trans z);have b:valueAt (q::qs) k=valueAt qs k:=by simp[valueAt,z60,a]
   rw[zU e,b];exact ih
theorem KV.any {kvs:List (κ×V)}{vs:List (κ×Value)}(r:KV kvs vs)(k:κ):(kvs.any λa=>decide (a.1=k))=vs.any λa=>decide (a.1=k):=by
 unfold KV at r
 induction r with
 |nil=>rfl
 |cons h t b=>rw[z83,z83,b,h.1]
theorem KV.repl {kvs:List (κ×V)}{vs:List (κ×Value)}(r:KV kvs vs)(k:κ){y:V}{u:Value}(d:RelV y u):
  KV (kvs.map λa=>if a.1=k then(a.1,y)else a) (vs.map λa=>if a.1=k then(a.1,u)else a):=by
 unfold KV at r ⊢
 induction r with
 |nil=>exact .nil
 |@cons p q ps qs h t ih=>
  rw[z03,z03];refine .cons ?_ ih;obtain⟨b,c⟩:=h;by_cases e:p.1=k
  ·rw[if_pos e,if_pos (b.symm.trans e)];exact⟨b,d⟩
  ·rw[if_neg e,if_neg (λz=>e (b.trans z))];exact⟨b,c⟩
theorem KV.put {kvs:List (κ×V)}{vs:List (κ×Value)}(r:KV kvs vs)(k:κ){y:V}{u:Value}(a:RelV y u):KV (putK kvs k y) (stored vs k u):=by
 unfold putK stored;rw[r.any k];by_cases e:(vs.any λb=>decide (b.1=k))=true
 ·rw[if_pos e,if_pos e];exact r.repl k a
 ·rw[if_neg e,if_neg e];exact Paired.snoc r ⟨rfl,a⟩
theorem KV.length {kvs:List (κ×V)}{vs:List (κ×Value)}(r:KV kvs vs):kvs.length=vs.length:=Paired.length r
end
theorem qV {P:Program}{w:World}{k:Key}{u:Value}(r:RelV (kV k) u):(zJ P w).is k u=true:=by
 cases k with
 |inl i=>obtain⟨t,e⟩:=(show ∃t,u=Value.int i t from r);subst e;exact my P w i t
 |inr x=>obtain⟨t,e⟩:=(show ∃t,u=Value.str x t from r);subst e;exact lg P w x t
theorem pj {P:Program}{w:World}:∀{ks:List Key}{us:List Value},Vals (ks.map kV) us->ItemsAre (zJ P w) ks us
 |[],_,r=>by rw[List.map_nil]at r;cases r;exact .nil
 |k::ks,_,r=>by
  rw[z03]at r;cases r with
  |cons h t=>exact .cons (qV h) (pj t)
abbrev KT (H:Hp):List (List Key×V)->List (List Key×Addr×Value)->Prop:=Paired λp q=>p.1=q.1/\H q.2.1=some (.tup (p.1.map kV))/\RelV p.2 q.2.2
theorem KT.val {H:Hp}{kvs:List (List Key×V)}{xs:List (List Key×Addr×Value)}(r:KT H kvs xs)(k:List Key):vJ (yO kvs k) ((atKey xs k).map (·.2)):=by
 induction r with
 |nil=>exact True.intro
 |@cons p q ps qs h t ih=>
  obtain⟨c,_,d⟩:=h;by_cases e:p.1=k
  ·have a:q.1=k:=c.symm.trans e;have b:atKey (q::qs) k=some q.2:=by simp[atKey,z60,a]
   rw[ya e,b];exact d
  ·have a:¬q.1=k:=λz=>e (c.trans z);have b:atKey (q::qs) k=atKey qs k:=by simp[atKey,z60,a]
   rw[zU e,b];exact ih
theorem KT.repl {H:Hp}{kvs:List (List Key×V)}{xs:List (List Key×Addr×Value)}(r:KT H kvs xs)(k:List Key){y:V}{u:Value}(d:RelV y u):
  KT H (kvs.map λb=>if b.1=k then(b.1,y)else b) (xs.map (putAt k u)):=by
 induction r with
 |nil=>exact .nil
 |@cons p q ps qs h t ih=>
  rw[z03,z03];refine .cons ?_ ih;obtain⟨a,c,f⟩:=h;unfold putAt;by_cases e:p.1=k
  ·rw[if_pos e,if_pos (a.symm.trans e)];exact⟨a,c,d⟩
  ·rw[if_neg e,if_neg (λz=>e (a.trans z))];exact⟨a,c,f⟩
theorem KT.put {H:Hp}{kvs:List (List Key×V)}{xs:List (List Key×Addr×Value)}(r:KT H kvs xs)(k:List Key){b:Addr}{y:V}{u:Value}(hb:H b=some (.tup (k.map kV)))(a:RelV y u):
  KT H (putK kvs k y) (storedH xs k b u):=by
 have e:(kvs.any λc=>decide (c.1=k))=(atKey xs k).isSome:=by rw[vg,(r.val k).isSome_eq,Option.isSome_map]
 unfold putK storedH;rw[e];by_cases q:(atKey xs k).isSome=true
 ·rw[if_pos q,if_pos q];exact r.repl k a
 ·rw[if_neg q,if_neg q];exact Paired.snoc r ⟨rfl,hb,a⟩
theorem KT.keeps {H H':Hp}{kvs:List (List Key×V)}{xs:List (List Key×Addr×Value)}(r:KT H kvs xs)(a:∀b ys,H b=some (.tup ys)->H' b=some (.tup ys)):KT H' kvs xs:=
 Paired.mapP r λ_ _ z=>⟨z.1,a _ _ z.2.1,z.2.2⟩
section
variable {P:Program}{w:World}{H:Hp}{h:Heap}{a:Addr}
theorem zy3 {u:HO}(ok:HOk P w H h)(e:Rd H a u):zA P w H h a u:=e.ok ok
theorem qJ {kvs:List (Key×V)}(ok:HOk P w H h)(e:Rd H a (.dK kvs)):kvs.length<=sizeLine/\(a == sysModules)=false/\∃vs,KV kvs vs/\h.DictOf (zJ P w) a vs:=
 show zA P w H h a (.dK kvs)from zy3 ok e
theorem zs5 {kvs:List (Key×V)}(ok:HOk P w H h)(e:H a=some (.dK kvs)):kvs.length<=sizeLine/\(a == sysModules)=false/\∃vs,KV kvs vs/\h.DictOf (zJ P w) a vs:=qJ ok (.inl e)
theorem uT {ks:List Key}(ok:HOk P w H h)(e:H a=some (.tup (ks.map kV))):(tupleKind (zJ P w)).is h ks a:=by
 obtain⟨_,its,r,o,d,b,n,c⟩:=(show zA P w H h a (.tup (ks.map kV))from ok a _ e);exact⟨o,its.toArray,n,d,b,c,by simpa using pj r⟩
theorem qU {kvs:List (List Key×V)}(ok:HOk P w H h)(e:Rd H a (.dT kvs)):kvs.length<=sizeLine/\(a == sysModules)=false/\
  ∃xs,KT H kvs xs/\h.DictOfH (tupleKind (zJ P w)) a xs:=by
 obtain⟨z,y,xs,r,o,k,f,i,c,j,g,d⟩:=(show zA P w H h a (.dT kvs)from zy3 ok e);refine⟨z,y,xs,r,o,k,f,i,c,j,g,λx b=>?_,d⟩;have all:∀{l:List (List Key×V)} {m:List (List Key×Addr×Value)},KT H l m->∀x∈m,(tupleKind (zJ P w)).is h x.1 x.2.1:=by
  intro l m q
  induction q with
  |nil=>intro x b;exact nomatch b
  |@cons p q ps qs hq t ih=>
   intro x b;rcases zY4.mp b with e|b
   ·subst e;exact uT ok (by rw[<-hq.1];exact hq.2.1)
   ·exact ih x b
 exact all r x b
theorem zO2 {kvs:List (List Key×V)}(ok:HOk P w H h)(e:H a=some (.dT kvs)):kvs.length<=sizeLine/\(a == sysModules)=false/\
  ∃xs,KT H kvs xs/\h.DictOfH (tupleKind (zJ P w)) a xs:=qU ok (.inl e)
end
def mV (H:Hp)(a:Addr)(y:V)(r:Option V):Prop:=
 (∃kvs k,Rd H a (.dK kvs)/\y=kV k/\r=yO kvs k)\/∃kvs k b,Rd H a (.dT kvs)/\y=.ref b/\H b=some (.tup (k.map kV))/\r=yO kvs k
def bV (H:Hp)(a:Addr)(y v:V)(H':Hp):Prop:=
 (∃kvs k,H a=some (.dK kvs)/\y=kV k/\kvs.length<sizeLine/\H'=upd H a (.dK (putK kvs k v)))\/
 ∃kvs k b,H a=some (.dT kvs)/\y=.ref b/\H b=some (.tup (k.map kV))/\kvs.length<sizeLine/\H'=upd H a (.dT (putK kvs k v))
theorem bV.k {H:Hp}{a:Addr}{kvs:List (Key×V)}{k:Key}{v:V}(e:H a=some (.dK kvs))(b:kvs.length<sizeLine):bV H a (kV k) v (upd H a (.dK (putK kvs k v))):=.inl ⟨kvs,k,e,rfl,b,rfl⟩
section
variable {X:Cx}{pins:List (Addr×Obj)}{σ:St}{H:Hp}{s:Shared}{a:Addr}{y v:V}{u r:Value}{o:Option V}{A:Around}{E:Value->Shared->Prop}
theorem Inv.big (I:Inv X pins σ H s):sysModules<s.heap.objs.size:=by
 have h:mainGlobals<s.heap.objs.size:=(I.mod.glob.keeps I.bk).lt;exact Nat.lt_trans (by decide) h
theorem fw {Q:Value->Shared->Prop}(m:A.units+1<cLine)(I:Inv X pins σ H s)(g:mV H a y (some v))(j:RelV y u)(h:∀d s',Inv X pins σ H s'->RelV v d->Q d s'):
  wpAny (model X.prog X.w) A (getItem (.ref a) u) Q E s:=by
 rcases g with⟨kvs,k,e,i,l⟩|⟨kvs,k,b,e,i,q,l⟩
 ·subst i;obtain⟨z,hd,vs,rel,dd⟩:=qJ I.hok e;obtain⟨d,hw,c⟩:=vJ.some_of (v:=v) (o:=valueAt vs k) (by rw[l];exact rel.val k);exact wpAny_getItem_of (qV j) dd.mapOf hw (h d _ (I.tok _) c)
 ·subst i;cases(show u=Value.ref b from j);obtain⟨z,hd,xs,rel,dd⟩:=qU I.hok e;obtain⟨d,hw,c⟩:=vJ.some_of (v:=v) (o:=(atKey xs k).map (·.2)) (by rw[l];exact rel.val k);obtain⟨p,n,f⟩:=zZ6.mp hw;refine wpAny_getItem_heap (ye6 m) (uT I.hok q) dd n ?_;rw[f];exact h d _ (I.tok _) c
theorem zU9 {Q:Value->Shared->Prop}(f:A.units+1<cLine)(I:Inv X pins σ H s)(g:mV H a y o)(d:RelV y u)(h:∀s',Inv X pins σ H s'->Q (.bool o.isSome) s'):
  wpAny (model X.prog X.w) A (compareOp .In u (.ref a)) Q E s:=by
 rcases g with⟨kvs,k,e,c,l⟩|⟨kvs,k,b,e,c,i,l⟩
 ·subst c;obtain⟨z,hd,vs,rel,dd⟩:=qJ I.hok e;refine wpAny_in_of (qV d) hd dd.mapOf ?_;rw[<-(rel.val k).isSome_eq,<-l];exact h _ (I.tok _)
 ·subst c;cases(show u=Value.ref b from d);obtain⟨z,hd,xs,rel,dd⟩:=qU I.hok e;refine wpAny_in_heap (ye6 f) (uT I.hok i) hd dd ?_;have q:=(rel.val k).isSome_eq;rw[Option.isSome_map]at q;rw[<-q,<-l];exact h _ (I.tok _)
theorem zr0 {Q:Value->Shared->Prop}(f:A.units+1<cLine)(I:Inv X pins σ H s)(g:mV H a y o)(d:RelV y u)(h:∀s',Inv X pins σ H s'->Q (.bool (!o.isSome)) s'):
  wpAny (model X.prog X.w) A (compareOp .NotIn u (.ref a)) Q E s:=by
 rcases g with⟨kvs,k,e,c,l⟩|⟨kvs,k,b,e,c,i,l⟩
 ·subst c;obtain⟨z,hd,vs,rel,dd⟩:=qJ I.hok e;refine wpAny_notIn_of (qV d) hd dd.mapOf ?_;rw[<-(rel.val k).isSome_eq,<-l];exact h _ (I.tok _)
 ·subst c;cases(show u=Value.ref b from d);obtain⟨z,hd,xs,rel,dd⟩:=qU I.hok e;refine wpAny_notIn_heap (ye6 f) (uT I.hok i) hd dd ?_;have q:=(rel.val k).isSome_eq;rw[Option.isSome_map]at q;rw[<-q,<-l];exact h _ (I.tok _)
theorem oN {h':Heap}{t':Nat}{ob:HO}(I:Inv X pins σ H s)(d:Mut (H a))(c:Heap.SameBut a s.heap h')(he:∃q,h'.get? a=some q)(new:zA X.prog X.w (upd H a ob) h' a ob):
  Inv X pins σ (upd H a ob) {s with heap:=h',toks:=t'}:=
 I.write (x:=a) (e:=a) d (.inl rfl) (λb q hb z=>(c.2 b hb).trans z) he new
theorem cA {P:Program}{w:World}{H':Hp}{h':Heap}{kvs:List (Key×V)}{vs:List (Key×Value)}(z:kvs.length<=sizeLine)(hd:(a == sysModules)=false)(rel:KV kvs vs)(dd:h'.DictOf (zJ P w) a vs):
  zA P w H' h' a (.dK kvs):=⟨z,hd,vs,rel,dd⟩
theorem gB {H':Hp}{Q:Unit->Shared->Prop}(G:A.units+1<cLine)(I:Inv X pins σ H s)(g:bV H a y v H')(n:RelV y u)(p:RelV v r)(h:∀s',Inv X pins σ H' s'->Q () s'):
  wpAny (model X.prog X.w) A (setItem (.ref a) u r) Q E s:=by
 rcases g with⟨kvs,k,e,j,l,i⟩|⟨kvs,k,b,e,j,t,l,i⟩
 ·subst j i;obtain⟨z,hd,vs,rel,dd⟩:=zs5 I.hok e;have hz:vs.length<=sizeLine:=by rw[<-rel.length];exact z
  have f:(putK kvs k v).length<=sizeLine:=by have:=xI kvs k v;exact zY8 this l
  refine wpAny_setItem_pairs (hsz:=hz) (qV n) dd λh' d m=>h _ ?_;have he:∃q,h'.get? a=some q:=let⟨q,_,_,hq,_⟩:=d;⟨q,hq⟩;exact oN I (by rw[e];exact True.intro) m he (cA f hd (rel.put k p) d)
 ·subst j i;cases(show u=Value.ref b from n);obtain⟨z,hd,xs,rel,dd⟩:=zO2 I.hok e;have hz:xs.length<=sizeLine:=by rw[<-Paired.length rel];exact z
  have f:(putK kvs k v).length<=sizeLine:=by have:=xI kvs k v;exact zY8 this l
  refine wpAny_setItem_heap (hsz:=hz) (ye6 G) (uT I.hok t) dd λh' d m=>h _ ?_;obtain⟨q,D,C,hq,F,K,J,_,B⟩:=d;refine oN I (by rw[e];exact True.intro) m ⟨q,hq⟩ ⟨f,hd,_,(rel.put k t p).keeps λc ys x=>?_,q,D,C,hq,F,K,J,B⟩;rw[zc (cx x e (λz=>nomatch z))];exact x
end
section
variable {X:Cx}{pins:List (Addr×Obj)}{σ:St}{H:Hp}{s:Shared}{a:Addr}{kvs:List (Key×V)}{k:Key}{u:Value}{A:Around}{E:Value->Shared->Prop}
end
theorem nq {X:Cx}{pins:List (Addr×Obj)}{σ:St}{H:Hp}{s:Shared}{a:Addr}{y:V}{o:Option V}(I:Inv X pins σ H s)(g:mV H a y o):s.TypeIs (.ref a) "dict":=by
 rcases g with⟨kvs,k,e,_,_⟩|⟨kvs,k,b,e,_,_,_⟩
 ·obtain⟨_,_,vs,_,dd⟩:=qJ I.hok e;exact dd.typeIs
 ·obtain⟨_,_,xs,_,dd⟩:=qU I.hok e;exact dd.typeIs
def zS5 (c ty d:TE):TS:=λD σ H=>d σ H λv H1=>c σ H1 λx e=>ty σ e λy H3=>∃a b,x=.ref a/\bV H3 a y v b/\D.nx σ b
section
variable {X:Cx}{o i e value:Expr}{pos pos' tpos:Pos}{td ty tv:TE}
theorem zo7 (n:X.A.units+1<cLine)(q:PE X o td)(hi:PE X i ty)(t:PE X value tv)(m:swapsWith value (some (.Subscript o i pos')) pos.line X.env=pure false):
  PS X (.Assign [.Subscript o i pos'] value pos) (zS5 td ty tv):=by
 intro pins s σ H D I h;refine wpAny_Assign_Subscript (thn (t pins s σ H _ I h) λr s1 ⟨v,H1,j,d,l⟩=>thn (q pins s1 σ H1 _ j l) λu s2 ⟨x,f,k,p,b⟩=>thn (hi pins s2 σ f _ k b) λE s3 ⟨y,H3,w,c,a,C,ex,g,B⟩=>?_) m;subst ex;obtain rfl:u=Value.ref a:=p;exact gB n w g c d λs4 z=>⟨σ,C,z,B⟩
end
theorem cQ {P:Program}{w:World}{H:Hp}(h:Heap)(hb:sysModules<h.objs.size):zA P w H (h.push {cls:=.type "dict",data:=.dict #[]}) h.objs.size (.dK []):=
 ⟨zZ4 _,z79.mpr (z24 (zZ7 hb)),[],.nil,Heap.DictOf.new h⟩
section
variable {X:Cx}{pos:Pos}
end
def jg :List (TE×TE)->St->Hp->(List (V×V)->Hp->Prop)->Prop
 |[],_,H,Q=>Q [] H
 |(tk,tv)::r,σ,H,Q=>tk σ H λx H1=>tv σ H1 λy a=>jg r σ a λps H3=>Q ((x,y)::ps) H3
abbrev VV :List (V×V)->List (Value×Value)->Prop:=Paired λp q=>RelV p.1 q.1/\RelV p.2 q.2
def PPs (X:Cx)(pos:Pos)(keys:List (Option Expr))(values:List Expr)(a:List (TE×TE)):Prop:=
 ∀(pins:List (Addr×Obj)) (s:Shared) (σ:St) (H:Hp) (Q:List (V×V)->Hp->Prop),Inv X pins σ H s->jg a σ H Q->
  wpAny (model X.prog X.w) X.A (evalPairs (pairTrees keys values X.env pos)) (λvs s'=>∃ps H',Inv X pins σ H' s'/\VV ps vs/\Q ps H') X.xe s
theorem zm8 {X:Cx}{pos:Pos}:PPs X pos [] [] []:=λpins s σ H Q I h=>pairTrees_nil_walk ⟨[],H,I,.nil,h⟩
theorem bK {X:Cx}{pos:Pos}{k v:Expr}{ks:List (Option Expr)}{vs:List Expr}{tk b:TE}{a:List (TE×TE)}(hk:PE X k tk)(l:PE X v b)(hr:PPs X pos ks vs a):
  PPs X pos (some k::ks) (v::vs) ((tk,b)::a):=λpins s σ H Q I h=>
 pairTrees_cons_walk (thn (hk pins s σ H _ I h) λu s1 ⟨x,H1,f,j,i⟩=>thn (l pins s1 σ H1 _ f i) λo s2 ⟨y,e,g,d,c⟩=>
  thn (hr pins s2 σ e _ g c) λws s3 ⟨ps,H3,m,rel,n⟩=>⟨(x,y)::ps,H3,m,.cons ⟨j,d⟩ rel,n⟩)
def uW (kvs more:List (Key×V)):List (Key×V):=more.foldl (λacc a=>putK acc a.1 a.2) kvs
theorem KV.merge :∀{more:List (Key×V)}{rs:List (Key×Value)}{kvs:List (Key×V)}{vs:List (Key×Value)},KV more rs->KV kvs vs->KV (uW kvs more) (merged vs rs):=by
 intro more rs kvs vs r;unfold KV at r
 induction r generalizing kvs vs with
 |nil=>intro q;exact q
 |@cons p q ps qs h t ih=>
  intro a;have e:KV (putK kvs p.1 p.2) (stored vs q.1 q.2):=by
   have:=a.put p.1 h.2;rw[<-h.1];exact this
  exact ih e
theorem vL :∀(more kvs:List (Key×V)),(uW kvs more).length<=kvs.length+more.length
 |[],kvs=>by show kvs.length<=kvs.length+0;exact zZ3 _ _
 |p::r,kvs=>by
  have b:=vL r (putK kvs p.1 p.2);have a:=xI kvs p.1 p.2;show(uW (putK kvs p.1 p.2) r).length<=_;rw[z00];exact zR7 b a
theorem sI {P:Program}{w:World}:∀{kvs:List (Key×V)}{ws:List (Value×Value)},VV (kvs.map λd=>(kV d.1,d.2)) ws->∃rs,Carries (zJ P w) ws rs/\KV kvs rs
 |[],_,r=>by rw[List.map_nil]at r;cases r;exact⟨[],True.intro,.nil⟩
 |p::kvs,_,r=>by
  rw[z03]at r;cases r with
  |@cons a b as bs h t=>
   obtain⟨rs,c,q⟩:=sI (P:=P) (w:=w) t;obtain⟨f,e⟩:=b;exact⟨(p.1,e)::rs,⟨qV h.1,rfl,c⟩,.cons ⟨rfl,h.2⟩ q⟩
def zN9 (a:List (TE×TE)):TE:=λσ H Q=>∀p,H p=none->jg a σ (upd H p (.dK [])) λps b=>b p=some (.dK [])/\∃kvs:List (Key×V),ps=kvs.map (λc=>(kV c.1,c.2))/\kvs.length<=15/\Q (.ref p) (upd b p (.dK (uW [] kvs)))
theorem zp6 {X:Cx}{pos:Pos}{keys:List (Option Expr)}{values:List Expr}{d:List (TE×TE)}(h:PPs X pos keys values d)(f:keys.all (·.isSome)=true)(p:keys.length=values.length)(h0:keys≠[])
  (i:keys.length<=15):PE X (.Dict keys values pos) (zN9 d):=by
 intro pins s σ H Q I q;have hn:=I.hok.fresh (zY1 s.heap.objs.size);have n:=I.laid (a:=s.heap.objs.size) (o:=.dK []) (h':=s.heap.push {cls:=.type "dict",data:=.dict #[]}) (t':=s.toks) (λ_ _ q=>zX6 _ q) (zY1 _) (cQ s.heap I.big);refine wpAny_Dict_walk (knd:=zJ X.prog X.w) f p h0 i (thn (h pins _ σ _ _ n (q _ hn)) λws s2 g=>?_);obtain⟨ps,x,j,rel,e,kvs,l,y,k⟩:=g;subst l;obtain⟨rs,c,r⟩:=sI (P:=X.prog) (w:=X.w) rel;obtain⟨z,hd,u,t,dd⟩:=zs5 j.hok e;cases t;refine⟨rs,c,dd,λh' b v=>⟨.ref s.heap.objs.size,_,?_,rfl,k⟩⟩;have hz:(uW [] kvs).length<=sizeLine:=by
  have m:=vL kvs [];rw[ye1]at m;rw[z29];lia
 have he:∃q,h'.get? s.heap.objs.size=some q:=let⟨q,_,_,hq,_⟩:=b;⟨q,hq⟩;exact oN j (by rw[e];exact True.intro) v he (cA hz hd (r.merge .nil) b)
def IsD (H:Hp)(a:Addr):Prop:=(∃kvs,Rd H a (.dK kvs))\/∃kvs,Rd H a (.dT kvs)
theorem zz8 {X:Cx}{pins:List (Addr×Obj)}{σ:St}{H:Hp}{s:Shared}{a:Addr}(I:Inv X pins σ H s)(d:IsD H a):
  s.TypeIs (.ref a) "dict"/\(∀b,Value.ref a=.ref b->∃ob,s.heap.get? b=some ob/\ob.dict=none)/\(a == sysModules)=false:=by
 rcases d with⟨kvs,e⟩|⟨kvs,e⟩
 ·obtain⟨_,hd,vs,_,dd⟩:=qJ I.hok e;refine⟨dd.typeIs,λb q=>?_,hd⟩;cases q;obtain⟨ob,_,_,f,c,_⟩:=dd;exact⟨ob,f,c.2.1⟩
 ·obtain⟨_,hd,xs,_,dd⟩:=qU I.hok e;refine⟨dd.typeIs,λb q=>?_,hd⟩;cases q;obtain⟨ob,_,_,f,c,_⟩:=dd;exact⟨ob,f,c.2.1⟩
section
variable {X:Cx}{pins:List (Addr×Obj)}{σ:St}{H:Hp}{s:Shared}{a:Addr}{y d:V}{u r:Value}{o:Option V}{A:Around}{E:Value->Shared->Prop}
end
section
variable {X:Cx}{o e f:Expr}{apos cpos:Pos}{td ty tx:TE}
end
section
variable {X:Cx}{pins:List (Addr×Obj)}{σ:St}{H:Hp}{s:Shared}{a:Addr}{kvs:List (Key×V)}{A:Around}{E:Value->Shared->Prop}
end
section
variable {X:Cx}{pins:List (Addr×Obj)}{σ:St}{H:Hp}{s:Shared}{a:Addr}{y:V}{u:Value}{A:Around}{E:Value->Shared->Prop}
end
def kEq :PyData->Key->Bool
 |.int i,.inl j=>decide (i=j)
 |.str x,.inr y=>decide (x=y)
 |_,_=>false
theorem sO (k j:Key):kEq (yZ k) j=decide (k=j):=by
 cases k<;>cases j<;>simp[kEq,yZ]
def uw :List (PyData×PyData)->Key->Option PyData
 |[],_=>none
 |(p,d)::r,k=>if kEq p k=true then some d else uw r k
def putD (ds:List (PyData×PyData))(k:Key)(d:PyData):List (PyData×PyData):=
 if(uw ds k).isSome=true then ds.map (λp=>if kEq p.1 k=true then(p.1,d)else p)else ds++[(yZ k,d)]
theorem AVk.get {H:Hp}:∀{kvs:List (Key×V)}{ds:List (PyData×PyData)}{k:Key}{d:PyData},AVk H kvs ds->uw ds k=some d->∃v,yO kvs k=some v/\AV H v d
 |_,_,k,d,.nil,e=>by cases e
 |_,_,k,d,.cons (k:=j) h r,e=>by
  unfold uw at e;rw[sO]at e;by_cases z:j=k
  ·rw[z28 z,if_pos rfl]at e;cases e;exact⟨_,ya z,h⟩
  ·rw[z06 z,if_neg (by decide)]at e;rw[zU z];exact AVk.get r e
theorem AVk.none {H:Hp}{kvs:List (Key×V)}{ds:List (PyData×PyData)}{k:Key}(h:AVk H kvs ds)(e:uw ds k=Option.none):yO kvs k=Option.none:=by
 induction h using AVk.ind with
 |nil=>rfl
 |@cons j _ _ _ _ h r ih=>
  unfold uw at e;rw[sO]at e;by_cases z:j=k
  ·rw[z28 z,if_pos rfl]at e;cases e
  ·rw[z06 z,if_neg (by decide)]at e;rw[zU z];exact ih e
theorem AVk.some_iff {H:Hp}{kvs:List (Key×V)}{ds:List (PyData×PyData)}(h:AVk H kvs ds)(k:Key):(yO kvs k).isSome=(uw ds k).isSome:=by
 cases e:uw ds k with
 |none=>rw[h.none e];rfl
 |some d=>
  obtain⟨v,a,_⟩:=h.get e;rw[a];rfl
theorem AVk.length {H:Hp}{kvs:List (Key×V)}{ds:List (PyData×PyData)}(h:AVk H kvs ds):kvs.length=ds.length:=h.ind (motive:=λxs ds _=>xs.length=ds.length) rfl λ_ _ z=>congrArg (·+1) z
theorem AVk.snoc {H:Hp}{k:Key}{v:V}{d:PyData}(a:AV H v d):∀{kvs:List (Key×V)}{ds:List (PyData×PyData)},AVk H kvs ds->AVk H (kvs++[(k,v)]) (ds++[(yZ k,d)])
 |_,_,.nil=>.cons a .nil
 |_,_,.cons h r=>.cons h (AVk.snoc a r)
theorem AVk.repl {H:Hp}{k:Key}{v:V}{d:PyData}(a:AV H v d):∀{kvs:List (Key×V)}{ds:List (PyData×PyData)},AVk H kvs ds->AVk H (kvs.map λb=>if b.1=k then(b.1,v)else b) (ds.map λp=>if kEq p.1 k=true then(p.1,d)else p)
 |_,_,.nil=>.nil
 |_,_,.cons (k:=j) h r=>by
  rw[z03,z03];show AVk H ((if j=k then(j,v)else(j,_))::_) ((if kEq (yZ j) k=true then(yZ j,d)else(yZ j,_))::_);rw[sO];by_cases z:j=k
  ·rw[if_pos z,z28 z,if_pos rfl];exact .cons a (AVk.repl a r)
  ·rw[if_neg z,z06 z,if_neg (by decide)];exact .cons h (AVk.repl a r)
theorem AVk.put {H:Hp}{kvs:List (Key×V)}{ds:List (PyData×PyData)}{k:Key}{v:V}{d:PyData}(h:AVk H kvs ds)(a:AV H v d):AVk H (putK kvs k v) (putD ds k d):=by
 unfold putK putD;rw[vg,h.some_iff];split
 ·exact h.repl a
 ·exact h.snoc a
theorem AVk.at {H:Hp}{kvs:List (Key×V)}{ds:List (PyData×PyData)}{i:Nat}{p:PyData×PyData}(h:AVk H kvs ds)(e:ds[i]?=some p):∃k v,kvs[i]?=some (k,v)/\p.1=yZ k/\AV H v p.2:=by
 induction h using AVk.ind generalizing i with
 |nil=>simp at e
 |cons h _ a=>
  cases i with
  |zero=>exact z07 e▸⟨_,_,rfl,rfl,h⟩
  |succ i=>exact a (i:=i) e
theorem iB {H:Hp}(k:Key):AV H (kV k) (yZ k):=by cases k with
 |inl i=>exact .int i
 |inr x=>exact .str x
theorem uG {H:Hp}{v:V}{k:Key}(h:AV H v (yZ k)):v=kV k:=by
 cases k with
 |inl i=>exact h.int_inv
 |inr x=>exact h.str_inv
theorem AV.dk_inv {H:Hp}{v:V}{ds:List (PyData×PyData)}(h:AV H v (yS ds)):∃a o kvs,v=.ref a/\H a=some (.frz o (.dK kvs))/\AVk H kvs ds:=by
 generalize e:yS ds=d at h;cases h with
 |dk c b=>cases e;exact⟨_,_,_,rfl,c,b⟩
 |_=>cases e
theorem gW {H:Hp}{l:Addr}{o:Obj}{u:HO}(h:H l=some (.frz o u)):Plain H l:=by
 first
 |exact trivial
 |(intro v e;rw[h]at e;cases e;exact⟨(λz=>by cases z),λps z=>by cases z⟩)
section
variable {X:Cx}{pins:List (Addr×Obj)}{σ:St}{H:Hp}{s:Shared}{l:Addr}{kvs:List (Key×V)}
def zT7 (X:Cx)(l:Addr):Prop:=∀o u,X.H₀ l≠some (.frz o u)
theorem Inv.fz (I:Inv X pins σ H s)(h:H l=some (.dK kvs)):zT7 X l/\∃o,Inv X pins σ (upd H l (.frz o (.dK kvs))) s:=by
 refine⟨(λo u z=>by rw[I.base.frzs _ _ _ z]at h;cases h),?_⟩;obtain⟨z,y,vs,r,ob,a,d,e,c⟩:=(show zA X.prog X.w H s.heap l (.dK kvs)from I.hok l _ h);refine⟨ob,I.write (h':=s.heap) (t':=s.toks) (x:=l) (e:=l) (by rw[h];exact trivial) (.inl rfl) (λb u _ q=>q) ⟨ob,e⟩ ?_⟩;exact⟨e,z,y,vs,r,ob,a,d,e,c⟩
theorem Inv.unfz {o:Obj}(f:zT7 X l)(I:Inv X pins σ H s)(h:H l=some (.frz o (.dK kvs))):Inv X pins σ (upd H l (.dK kvs)) s:=by
 have ne:∀{b:Addr},H b=none->upd H l (.dK kvs) b=none:=λ{b} e=>by rw[zc λz=>by rw[z,h]at e;cases e];exact e
 refine⟨I.ok,I.os,I.bare,⟨I.base.keep,I.base.slot,λb ob q n a=>ne (I.base.free b ob q n a),I.base.there,λb xs q=>?_,λb ob u q=>?_,λb ps q=>?_⟩,I.loc,I.cell,ne I.free,λx c e=>ne (I.freeC x c e),λp j=>?_,λb u q=>?_,I.len⟩
 ·have:=I.base.tups b xs q;rw[zc λz=>by rw[z,h]at this;cases this];exact this
 ·rw[zc λz=>by rw[z]at q;exact f _ _ q];exact I.base.frzs b ob u q
 ·obtain⟨more,this⟩:=I.base.tbls b ps q;exact⟨more,by rw[zc λz=>by rw[z,h]at this;cases this];exact this⟩
 ·obtain⟨g,d,i⟩:=I.pin p j;exact⟨g,ne d,i⟩
 ·have st:∀{b:Addr} {u:HO},zA X.prog X.w H s.heap b u->zA X.prog X.w (upd H l (.dK kvs)) s.heap b u:=λ{b u} x=>x.stay (λ_ _ _ q=>q)
   (λc e=>by rw[zc λz=>by rw[z,h]at e;cases e];exact e) λc xs e=>by rw[zc λz=>by rw[z,h]at e;cases e];exact e
  by_cases z:b=l
  ·subst z;rw[zf]at q;cases q;obtain⟨_,w⟩:=(show zA X.prog X.w H s.heap b (.frz o (.dK kvs))from I.hok b _ h);exact st w
  ·rw[zc z]at q;exact st (I.hok b u q)
end
section
variable {X:Cx}{e:Expr}{sts:List Stmt}
theorem zK3 {t:TE}{l:Addr}{kvs:List (Key×V)}(h:PE X e t):PE X e (λσ H Q=>H l=some (.dK kvs)/\∀o,t σ (upd H l (.frz o (.dK kvs))) λv a=>a l=some (.frz o (.dK kvs))/\Q v (upd a l (.dK kvs))):=by
 intro pins s σ H Q I ⟨hl,q⟩;obtain⟨d,o,f⟩:=I.fz hl;refine thn (h pins s σ _ _ f (q o)) λu s1 b=>?_;obtain⟨v,a,g,r,e,c⟩:=b;exact⟨v,_,g.unfz d e,r,c⟩
theorem zD8 {t:TS}{l:Addr}{kvs:List (Key×V)}(h:PSs X sts t):PSs X sts (λD σ H=>H l=some (.dK kvs)/\∀o,t D σ (upd H l (.frz o (.dK kvs)))):=by
 intro pins s σ H D I ⟨hl,q⟩;obtain⟨b,o,a⟩:=I.fz hl;exact h pins s σ _ _ a (q o)
end
section
variable {X:Cx}{α:Ev}{e a b:Expr}{pos p:Pos}{Q:PyData->Prop}
theorem M.fzk {F:Fr}{σ:St}{H:Hp}{i:Nat}{ds:List (PyData×PyData)}{l:Addr}{kvs:List (Key×V)}{o:Obj}(m:M F α σ H)(hi:α[i]?=some (some (.dic ds)))(v:σ[i]?=some (some (.ref l)))(D:H l=some (.dK kvs)):
  M F (α.set i (some (.dat (yS ds)))) σ (upd H l (.frz o (.dK kvs))):=by
 obtain⟨l',J,E,I,W,B,O⟩:=m.dic i ds hi;rw[v]at E;cases E;rw[D]at I;cases I;have nl:¬Ow F (α.set i (some (.dat (yS ds)))) σ l:=m.gave hi v rfl λc z=>by cases z;exact id
 have ol:Ow F α σ l:=.inr ⟨i,_,_,hi,v,rfl⟩;have K:zw (Gz F α σ H) (Gz F (α.set i (some (.dat (yS ds)))) σ (upd H l (.frz o (.dK kvs)))):=λx u e=>by
  obtain⟨S,L⟩:=zb (aL (b:=.dat (yS ds)) (i:=i) (λ_ _ f=>f) x u e);exact zu S (by rw[zc λz=>(zb e).1 (by rw[z];exact ol)];exact L)
 have G:Plain H l:=rC D;refine⟨by rw[z31];exact m.len,λj c s e1 h=>?_,λj w c d s t x e1 h T N f1 f2=>?_,λj r q e w c s x e1 h f=>?_,m.tp.updO B G,λy u e n=>?_,λy hy=>?_⟩
 ·rcases zz e1 with⟨rfl,z⟩|⟨C,g⟩
  ·cases z;rw[v]at h;cases h;exact⟨_,rfl,.dk (zu nl zf) (W.same K)⟩
  ·refine(m.ok j c s g h).stay K (λy u f e=>?_) rfl λr q P k=>⟨k.tp,k.o,k.ok.updO (λz=>B (k.o _ z)) G,λy u e n=>?_⟩
   ·obtain⟨Z,Y,_⟩:=m.ft g h f;refine⟨?_,Z,Y⟩;rw[zc λz=>C (m.dj i j _ c _ s l hi g v h rfl (by rw[<-z];exact f))];exact e
   ·rw[zc (zh e (m.xd j r q (by rw[<-P];exact g) i _ _ l hi v rfl))];exact k.k y u e n
 ·rcases zz e1 with⟨rfl,z⟩|⟨C,g⟩
  ·cases z;exact f1.elim
  ·rcases zz h with⟨rfl,z⟩|⟨U,A⟩
   ·cases z;exact f2.elim
   ·exact m.dj j w c d s t x g A T N f1 f2
 ·rcases zz e with⟨_,z⟩|⟨_,R⟩
  ·cases z
  ·rcases zz e1 with⟨rfl,z⟩|⟨C,g⟩
   ·cases z;exact f.elim
   ·exact m.xd j r q R w c s x g h f
 ·rw[zc (zh e O)];exact m.keep y u e n
 ·rw[zc (λz=>B (by rw[<-z];exact hy))];exact m.oex y hy
theorem M.fzback {F:Fr}{σ:St}{H d:Hp}{i:Nat}{ds:List (PyData×PyData)}{l:Addr}{kvs:List (Key×V)}{o:Obj}(m:M F α σ H)(hi:α[i]?=some (some (.dic ds)))(A:σ[i]?=some (some (.ref l)))(w:H l=some (.dK kvs))
  (t:zD F d) (k:Kz F (upd H l (.frz o (.dK kvs))) d):d l=some (.frz o (.dK kvs))/\zD F (upd d l (.dK kvs))/\Kz F H (upd d l (.dK kvs))/\
   ∀x u,¬Ob u->Gz F (α.set i (some (.dat (yS ds)))) σ d x=some u->Gz F α σ (upd d l (.dK kvs)) x=some u:=by
 obtain⟨O,C,y,B,N,D,L⟩:=m.dic i ds hi;rw[A]at y;cases y;rw[w]at B;cases B;have r:d l=some (.frz o (.dK kvs)):=k _ _ zf (m.tp.nt D);have I:Plain d l:=gW r;refine⟨r,t.updO D I,λx u e n=>?_,λx u K e=>?_⟩
 ·by_cases z:x=l
  ·subst z;rw[w]at e;cases e;exact zf
  ·rw[zc z];exact k x u (by rw[zc z];exact e) n
 ·obtain⟨J,g⟩:=zb e;have nx:x≠l:=λz=>by rw[z,r]at g;cases g;exact K trivial
  refine zu (λq=>J ?_) (by rw[zc nx];exact g);rcases q with z|⟨j,c,s,v,h,f⟩
  ·exact .inl z
  ·by_cases E:i=j
   ·subst E;rw[hi]at v;cases v;rw[A]at h;cases h;have G:some (V.ref l)=some (.ref x):=f;cases G;exact absurd rfl nx
   ·exact .inr ⟨j,c,s,by rw[sJ E];exact v,h,f⟩
theorem za8 {Q:List PyData->Prop}(i:Nat){ds:List (PyData×PyData)}(hi:α[i]?=some (some (.dic ds)))(h:EvL X (α.set i (some (.dat (yS ds)))) e λd=>xQ d=true/\Q d):EvL X α e Q:=λF σ H R m k=>by
 obtain⟨l,kvs,g,f,I,G,E⟩:=m.dic i ds hi;refine⟨_,zK3 (l:=l) (kvs:=kvs) zg,f,λo=>?_⟩;refine h F σ _ _ (m.fzk hi g f) λd v H' q t kz r=>?_;obtain⟨g1,g2,g3,w⟩:=m.fzback hi g f t kz;obtain⟨n,xs,e1,c,B,s⟩:=r;have nl:n≠l:=λz=>by rw[z,zf]at c;cases c
 rw[zc nl]at c;refine⟨g1,k d v _ q.2 g2 g3 ⟨n,xs,e1,c,by rw[zc nl];exact B,s.noL (λx u y z=>?_) q.1⟩⟩;obtain⟨j,D⟩:=zb z;obtain⟨A,C⟩:=zb (w x u y (zu j.1 D));exact zu ⟨A,j.2⟩ C
theorem zC8 (i:Nat){ds:List (PyData×PyData)}{c:List Stmt}{E:yp}(hi:α[i]?=some (some (.dic ds)))(h:SvS X (α.set i (some (.dat (yS ds)))) c E):SvS X α c E:=λF σ H D m r=>by
 obtain⟨l,kvs,f,d,k,j,g⟩:=m.dic i ds hi;exact⟨_,zD8 (l:=l) (kvs:=kvs) zE,d,λo=>h F σ _ D (m.fzk hi f d) r⟩
theorem zm4 (i:Nat){x:Str}{c:Expr}{ds:List (PyData×PyData)}{p1 p2:Pos}{rest:List Stmt}{E:yp}(C:X.A.units+1<cLine)(hi:α[i]?=some (some (.dic ds)))(h:EvD X α e λd=>EvD X α c λy=>∃k,y=yZ k/\ds.length<1000/\SvS X (α.set i (some (.dic (putD ds k d)))) rest E)
  (w:X.N[i]?=some x:=by rfl) (I:Vis X.env.scope x:=by first|exact Or.inl rfl|exact Or.inr (Or.inl rfl)|exact Or.inr (Or.inr rfl)) (hd:(x == ("__debug__":Str))=false:=by decide) (f:(x == ("__classdict__":Str))=false:=by decide)
  (g:swapsWith e (some (.Subscript (.Name x p1) c p2)) pos.line X.env=pure false:=by rfl):
  SvS X α (.Assign [.Subscript (.Name x p1) c p2] e pos::rest) E:=λF σ H D m r=>by
 obtain⟨l,kvs,j,z,o,n,J⟩:=m.dic i ds hi;refine⟨_,zy (zo7 C (yF w I hd f) zg zg g) zE,?_⟩;refine h F σ H _ m λd v H1 B t1 k1 t=>?_;have m1:=m.kz k1 t1;refine⟨.ref l,j,?_⟩;refine B F σ H1 _ m1 λy L K s t2 k2 G=>?_;have m2:=m1.kz k2 t2;obtain⟨k,rfl,u,q⟩:=s;cases uG G;refine⟨l,_,rfl,bV.k (k2 _ _ (k1 _ _ z (m.tp.nt n)) (m.tp.nt n)) (by rw[o.length];exact ye (z36 u)),?_⟩;exact q F σ _ D (m2.wrC hi j (.dk (((o.same (k1.gz m.tp)).same (k2.gz m1.tp)).put (t.same (k2.gz m1.tp))))) r
end
section
variable {X:Cx}{α:Ev}{e a b:Expr}{pos p:Pos}{Q:PyData->Prop}
theorem aS (h:EvD X α a λy=>EvD X α b λd=>∃k,y=yZ k/\Q (yS [(yZ k,d)])):EvC X α (.Dict [some a] [b] pos) Q:=λF σ H R m j=>by
 refine⟨_,zp6 (bK zg zg zm8) rfl rfl (List.cons_ne_nil _ _) (by show 1<=15;decide),λl f=>?_⟩;have s0:zw H (upd H l (.dK [])):=zW f;have m0:=m.park (Kz.of_same s0) (m.tp.same s0) f zf (λ_ z=>by cases z);refine h _ σ _ _ m0 λy A H1 u t1 k1 s=>?_;have m1:=m0.kz k1 t1;refine u _ σ H1 _ m1 λd v g r t2 k2 w=>?_;obtain⟨k,rfl,q⟩:=r;cases uG s;have nl:¬Ow F α σ l:=m.fresh f;have c:NT F l:=m.tp.nt (ow0 nl);have i:g l=some (.dK []):=k2 _ _ (k1 _ _ zf c) c;have t:zD F g:=m.tp.re t2 rfl;refine⟨i,[(k,v)],rfl,by show 1<=15;decide,?_⟩;refine j _ _ _ q (t.updO (ow0 nl) (rC i)) (λx o e n=>?_) ⟨l,_,rfl,f,zf,?_⟩
 ·have nx:x≠l:=λz=>by rw[z,f]at e;cases e
  rw[zc nx];exact k2 _ _ (k1 _ _ (s0 _ _ e) n) n
 ·refine yC.dk (kvs:=uW [] [(k,v)]) ?_;refine AVk.cons (w.same (zm λx o h e=>?_)) .nil;have nx:x≠l:=λz=>h (.inl (.inr z));exact⟨⟨λz=>h (z.elim (λz=>.inl (.inl z)) .inr),nx⟩,by rw[zc nx];exact e⟩
end
def epO (o:Obj):Nat:=match o.data with
 |.dict _ a=>a
 |_=>0
theorem Inv.fzAt {X:Cx}{pins:List (Addr×Obj)}{σ:St}{H:Hp}{s:Shared}{a:Addr}{o:Obj}{kvs:List (Key×V)}(I:Inv X pins σ H s)(h:H a=some (.frz o (.dK kvs))):
  kvs.length<=sizeLine/\(a == sysModules)=false/\∃vs,KV kvs vs/\s.heap.DictAt (zJ X.prog X.w) a vs (epO o):=by
 obtain⟨b,z,y,vs,r,ob,i,g,e,d,c,f⟩:=(show zA X.prog X.w H s.heap a (.frz o (.dK kvs))from I.hok a _ h);rw[b]at e;cases e;have j:epO o=g:=by unfold epO;rw[c]
 rw[j];exact⟨z,y,vs,r,o,i,b,d,c,f⟩
theorem KV.at {kvs:List (Key×V)}{vs:List (Key×Value)}(r:KV kvs vs):∀{i:Nat}{k:Key}{v:V},kvs[i]?=some (k,v)->∃u,vs[i]?=some (k,u)/\RelV v u:=by
 unfold KV at r
 induction r with
 |nil=>intro i k v e;simp at e
 |@cons p q ps qs h t ih=>
  intro i k v e;cases i with
  |zero=>
   simp at e;subst e;refine⟨q.2,?_,h.2⟩;have a:k=q.1:=h.1;rw[a];rfl
  |succ i=>
   obtain⟨u,a,b⟩:=ih (i:=i) (by simpa using e);exact⟨u,by simpa using a,b⟩
theorem hU {P:Program}{w:World}{k:Key}{u:Value}(h:(zJ P w).is k u=true):RelV (kV k) u:=by
 rcases zR (show rh k u=true from h)with⟨i,t,rfl,rfl⟩|⟨x,t,rfl,rfl⟩
 ·exact⟨t,rfl⟩
 ·exact⟨t,rfl⟩
def Itd (a:Addr)(o:Obj)(kvs:List (Key×V)):It:=⟨λi H=>H a=some (.frz o (.dK kvs))/\i<kvs.length,λi H x H'=>H'=H/\∃k v,kvs[i]?=some (k,v)/\x=kV k,λi H=>H a=some (.frz o (.dK kvs))/\kvs.length<=i⟩
def zK6 (a:Addr)(o:Obj)(kvs:List (Key×V)):It:=⟨λi H=>H a=some (.frz o (.dK kvs))/\i<kvs.length,λi H x H'=>H'=H/\∃k v,kvs[i]?=some (k,v)/\x=v,λi H=>H a=some (.frz o (.dK kvs))/\kvs.length<=i⟩
theorem fC {P:Program}{w:World}{K:PySem.W.Frag}{tg:Expr}(a it:Addr)(ob:Obj)(kvs:List (Key×V)):Turn P w K tg (Itd a ob kvs) [it] it (λi h=>h.IsKeyIter it a i kvs.length (epO ob)) where
 mem:=by simp
 obj:=λi h st b hb=>by
  have e:b=it:=by simpa using hb
  subst e;obtain⟨o,e,c,d⟩:=st;exact⟨o,e,λv z=>by rw[d]at z;cases z⟩
 keep:=λi h h' st k=>st.at λo e=>k it (by simp) o e
 item:=by
  intro X m hw hK n i pins s σ H E I hf st hg;subst m hw hK;obtain⟨hq,hi⟩:=hg;obtain⟨_,_,vs,rel,dd⟩:=I.fzAt hq;have g:=rel.length;obtain⟨⟨k,v⟩,q⟩:∃p,kvs[i]?=some p:=⟨kvs[i],zY0 hi⟩;obtain⟨u,y,A⟩:=rel.at q;obtain⟨f0,f1,f2,j,f4,l⟩:=hf it (by simp);rw[g]at st ⊢;refine wpAny_pyNext_dict_item st dd y λkey h' hk f r=>?_;have t:Inv X pins σ H {s with heap:=h'}:=I.turned (t':=s.toks) (λb o hb e=>(r.2 b hb).trans e) f0 f1 j f4 l;obtain⟨o,e,c,d⟩:=id f;exact⟨key,rfl,nv (s:={s with heap:=h'}) e c d (by decide) ⟨kV k,H,t,hU hk,⟨rfl,k,v,q,rfl⟩,f,λb hb=>(hf b hb).1⟩⟩
 done:=by
  intro X m hw hK n i pins s σ H E I hf st hg;subst m hw hK;obtain⟨hq,hi⟩:=hg;obtain⟨_,_,vs,rel,dd⟩:=I.fzAt hq;have g:=rel.length;obtain⟨f0,f1,f2,j,f4,l⟩:=hf it (by simp);rw[g]at st;exact wpAny_pyNext_dict_end (I.ok.hd n) st dd (yc2 (zY8 (zZ5 g.symm) hi)) λh' x=>⟨rfl,I.turned (t':=s.toks) (λb o hb e=>x b o hb e) f0 f1 j f4 l⟩
 self:=λ_ _ _ _ _ st h=>wpAny_pyIter_keyiter st h
theorem gA {P:Program}{w:World}{K:PySem.W.Frag}{tg:Expr}(a it:Addr)(ob:Obj)(kvs:List (Key×V)):Turn P w K tg (zK6 a ob kvs) [it] it (λi h=>h.IsValIter it a i kvs.length (epO ob)) where
 mem:=by simp
 obj:=λi h st b hb=>by
  have e:b=it:=by simpa using hb
  subst e;obtain⟨o,e,c,d⟩:=st;exact⟨o,e,λv z=>by rw[d]at z;cases z⟩
 keep:=λi h h' st k=>st.at λo e=>k it (by simp) o e
 item:=by
  intro X m hw hK n i pins s σ H E I hf st hg;subst m hw hK;obtain⟨hq,hi⟩:=hg;obtain⟨_,_,vs,rel,dd⟩:=I.fzAt hq;have g:=rel.length;obtain⟨⟨k,v⟩,q⟩:∃p,kvs[i]?=some p:=⟨kvs[i],zY0 hi⟩;obtain⟨u,y,A⟩:=rel.at q;obtain⟨f0,f1,f2,j,f4,l⟩:=hf it (by simp);rw[g]at st ⊢;refine wpAny_pyNext_values_item st dd y λh' f r=>?_;have t:Inv X pins σ H {s with heap:=h'}:=I.turned (t':=s.toks) (λb o hb e=>(r.2 b hb).trans e) f0 f1 j f4 l;obtain⟨o,e,c,d⟩:=id f;exact⟨u,rfl,nv (s:={s with heap:=h'}) e c d (by decide) ⟨v,H,t,A,⟨rfl,k,v,q,rfl⟩,f,λb hb=>(hf b hb).1⟩⟩
 done:=by
  intro X m hw hK n i pins s σ H E I hf st hg;subst m hw hK;obtain⟨hq,hi⟩:=hg;obtain⟨_,_,vs,rel,dd⟩:=I.fzAt hq;have g:=rel.length;obtain⟨f0,f1,f2,j,f4,l⟩:=hf it (by simp);rw[g]at st;exact wpAny_pyNext_values_end (I.ok.hd n) st dd (yc2 (zY8 (zZ5 g.symm) hi)) λh' x=>⟨rfl,I.turned (t':=s.toks) (λb o hb e=>x b o hb e) f0 f1 j f4 l⟩
 self:=λ_ _ _ _ _ st h=>wpAny_pyIter_valiter st h
section
variable {X:Cx}{tg:Expr}
theorem zj1 {l:Expr}{f:TE}(j:PE X l f):PI X tg l (λσ H R=>f σ H λx H1=>∃a o kvs,x=.ref a/\H1 a=some (.frz o (.dK kvs))/\R (Itd a o kvs) H1):=by
 intro pins s σ H R I h;refine thn (j pins s σ H _ I h) λv s1 d=>?_;obtain⟨x,H1,c,i,g⟩:=d;obtain⟨a,o,kvs,rfl,hq,q⟩:=g;cases i;obtain⟨_,k,vs,rel,dd⟩:=c.fzAt hq;refine wpAny_pyIter_dict k dd ?_;refine⟨s1.heap.objs.size,[s1.heap.objs.size],_,_,H1,rfl,c.kept (t':=s1.toks) λb o e=>zX6 _ e,fC a _ o kvs,⟨_,zY7 _ rfl,rfl,by rw[rel.length];rfl⟩,λb hb=>?_,q⟩;have e:b=s1.heap.objs.size:=by simpa using hb
 subst e;exact c.fpOk (zY1 _) (c.hok.fresh (zY1 _))
theorem zg2 {l:Expr}{k:TE}{apos c:Pos}(n:PE X l k)(f:attributeBase l "values" X.env (eval l X.env)=eval l X.env:=by rfl)(d:(apos.endLine == c.line)=true:=by rfl):
  PI X tg (.Call (.Attribute l "values" apos) [] [] c) (λσ H R=>k σ H λx H1=>∃a o kvs,x=.ref a/\H1 a=some (.frz o (.dK kvs))/\R (zK6 a o kvs) H1):=by
 intro pins s σ H R I h;refine wpAny_Call_method0_late f d (thn (n pins s σ H _ I h) λv s1 g=>?_);obtain⟨x,H1,i,m,p⟩:=g;obtain⟨a,o,kvs,rfl,hq,q⟩:=p;cases m;obtain⟨_,r,vs,rel,dd⟩:=i.fzAt hq;obtain⟨hT,hD,_⟩:=zz8 i (.inl ⟨kvs,.inr ⟨o,hq⟩⟩);refine⟨"dict","dict.values",PySem.F.plainAttrs_dict,PySem.F.slot_dict_values,PySem.F.type_dict_values,hT,hD,Calls.callWith_builtin rfl (PySem.evalArgs_none ?_)⟩;refine call_meetsIn PySem.F.slot_dict_values hT PySem.F.entry_dict_values (PySem.F.args_dict_values_1 _) (meets_dict_values (zJ X.prog X.w) a r) ⟨⟨vs,dd.dictOf⟩,?_⟩;have j:Inv X pins σ H1 {s1 with heap:=s1.heap.push {cls:=.type "dict_values",data:=.fields #[.ref a]}}:=i.kept (t':=s1.toks) λb o e=>zX6 _ e;refine wpAny_pyIter_values (v:=s1.heap.objs.size) ⟨_,zY7 _ rfl,rfl,rfl⟩ (dd.push _) ?_;refine⟨(s1.heap.push {cls:=.type "dict_values",data:=.fields #[.ref a]}).objs.size,[(s1.heap.push {cls:=.type "dict_values",data:=.fields #[.ref a]}).objs.size],_,_,H1,rfl,j.kept (t':=s1.toks) λb o e=>zX6 _ e,gA a _ o kvs,⟨_,zY7 _ rfl,rfl,by rw[rel.length];rfl⟩,λb hb=>?_,q⟩;have e:b=(s1.heap.push {cls:=.type "dict_values",data:=.fields #[.ref a]}).objs.size:=by simpa using hb
 subst e;exact j.fpOk (zY1 _) (j.hok.fresh (zY1 _))
end
section
variable {X:Cx}{α:Ev}{e a b tg:Expr}{pos p:Pos}{Q:List PyData->Prop}
theorem zn9 (h:EvD X α e λx=>∃ds,x=yS ds/\Q (ds.map (·.1))):EvI X α tg e Q:=λF σ H R m k=>by
 refine⟨_,zj1 zg,?_⟩;refine h F σ H _ m λx C H1 n t1 k1 j=>?_;obtain⟨ds,rfl,q⟩:=n;obtain⟨a,o,kvs,rfl,g1,g2⟩:=j.dk_inv;refine⟨a,o,kvs,rfl,(zb g1).2,k _ _ H1 q t1 k1 λi A u s=>⟨λd hd=>?_,λc=>?_⟩⟩
 ·rw[zZ1,zZ6]at hd;obtain⟨pr,l,rfl⟩:=hd;obtain⟨t,v,g,r,w⟩:=g2.at l;refine⟨⟨(zb (s _ _ g1)).2,(zX9.mp g).1⟩,λx H3 y=>?_⟩;obtain⟨rfl,B,z,f,rfl⟩:=y;rw[g]at f;cases f;refine⟨zw.refl _,λ_=>?_⟩;rw[r];exact iB _
 ·rw[zX7]at c;exact⟨(zb (s _ _ g1)).2,by rw[g2.length];exact c⟩
theorem zr2 {apos c:Pos}(h:EvD X α e λx=>∃ds,x=yS ds/\Q (ds.map (·.2)))(g:attributeBase e "values" X.env (eval e X.env)=eval e X.env:=by rfl)(f:(apos.endLine == c.line)=true:=by rfl):
  EvI X α tg (.Call (.Attribute e "values" apos) [] [] c) Q:=λF σ H R m k=>by
 refine⟨_,zg2 zg g f,?_⟩;refine h F σ H _ m λx G H1 w t1 k1 r=>?_;obtain⟨ds,rfl,q⟩:=w;obtain⟨a,o,kvs,rfl,g1,g2⟩:=r.dk_inv;refine⟨a,o,kvs,rfl,(zb g1).2,k _ _ H1 q t1 k1 λi C A s=>⟨λd hd=>?_,λj=>?_⟩⟩
 ·rw[zZ1,zZ6]at hd;obtain⟨pr,u,rfl⟩:=hd;obtain⟨z,v,n,E,t⟩:=g2.at u;refine⟨⟨(zb (s _ _ g1)).2,(zX9.mp n).1⟩,λx H3 y=>?_⟩;obtain⟨rfl,D,B,l,rfl⟩:=y;rw[n]at l;cases l;exact⟨zw.refl _,λ_=>t.same s⟩
 ·rw[zX7]at j;exact⟨(zb (s _ _ g1)).2,by rw[g2.length];exact j⟩
theorem rD (A:X.calm=true):yI X (.type "list") (λxs H Q=>∃a o kvs,xs=[.ref a]/\H a=some (.frz o (.dK kvs))/\∀l,H l=none->Q (.ref l) (upd H l (.lst (kvs.map λp=>kV p.1)))):=by
 intro pins s σ H xs us Q I r h;obtain⟨a,o,kvs,rfl,hq,q⟩:=h;obtain⟨u,rfl,B⟩:=vals1 r;cases B;obtain⟨hz,C,vs,rel,dd⟩:=I.fzAt hq;refine PySem.W.kdl_call (PySem.W.kdl_dict C) (I.ok.hd A) dd (by rw[<-rel.length];exact hz) λh' tk c c' kp e it=>?_;refine⟨.ref s.heap.objs.size,_,I.laid (t':=tk) kp (zY1 _) (show zA X.prog X.w _ h' _ (.lst (kvs.map λp=>kV p.1))from⟨by rw[zX7];exact hz,c.toList,c',?_,by simpa using e⟩),rfl,q _ (I.hok.fresh (zY1 _))⟩;have key:∀{as:List V} {bs:List Value},as.length=bs.length->(∀(j:Nat) x,as[j]?=some x->∃u,bs[j]?=some u/\RelV x u)->Vals as bs:=by
  intro as
  induction as with
  |nil=>intro bs d _;cases bs with|nil=>exact .nil|cons _ _=>simp at d
  |cons x as z=>
   intro bs d g;cases bs with
   |nil=>simp at d
   |cons y bs=>
    obtain⟨u,f,m⟩:=g 0 x rfl;simp at f;subst f;exact .cons m (z (by simpa using d) λj n i=>by simpa using g (j+1) n (by simpa using i))
 refine key (by rw[zX7,rel.length,yd3];exact it.1.symm) λj x i=>?_;rw[zZ1,zZ6]at i;obtain⟨⟨k,v⟩,d,rfl⟩:=i;obtain⟨D,g,_⟩:=rel.at d;have t:j<c.size:=by rw[it.1];exact(zX9.mp g).1
 obtain⟨E,n,f,m⟩:=it.2 j c[j] (by simp[t]);rw[g]at f;cases f;exact⟨c[j],by simp[t],hU m⟩
theorem za2 {H G:Hp}{kvs:List (Key×V)}{ds:List (PyData×PyData)}(h:AVk H kvs ds):AVs G (kvs.map λp=>kV p.1) (ds.map (·.1)):=by
 induction h using AVk.ind with
 |nil=>exact .nil
 |cons _ _ c=>exact .cons (iB _) c
theorem zf0 (c:X.calm=true)(hg:Gl X "list")(hm:X.mg "list"=none)(h:EvD X α e λx=>∃ds,x=yS ds/\Q (ds.map (·.1)))(he:starEach [e] X.env=(false,eval e X.env)::starEach [] X.env:=by rfl):
  EvL X α (.Call (.Name "list" p) [e] [] pos) Q:=λF σ H R m k=>by
 refine⟨_,xr (rD c) hg hm boot_list (zp zg zF he) (he:=he),?_⟩;refine h F σ H _ m λx r H1 d t1 k1 f=>?_;obtain⟨ds,rfl,q⟩:=d;have m1:=m.kz k1 t1;obtain⟨a,o,kvs,rfl,g1,g2⟩:=f.dk_inv;refine⟨a,o,kvs,rfl,(zb g1).2,λl j=>?_⟩;obtain⟨n,i,g⟩:=m1.lay j (za2 (G:=Gz F α σ H1) g2);exact k _ _ _ q n (k1.trans i) (g.back m k1 t1)
end
mutual
def ltD :PyData->PyData->Option Bool
 |.int a,.int b=>some (decide (a<b))
 |.str a,.str b=>some (decide (a.cps.toList<b.cps.toList))
 |.tuple xs,.tuple ys=>lY xs ys
 |_,_=>none
def lY :List PyData->List PyData->Option Bool
 |[],[]=>some false
 |[],_::_=>some true
 |_::_,[]=>some false
 |x::xs,y::ys=>if PyData.eqv x y=true then lY xs ys else ltD x y
end
def zB9 (A:Around)(s:Shared)(x y:PyData):Prop:=∀(v u:Value) (as bs:List Addr) (r:Bool),Reads s.heap v x as->Reads s.heap u y bs->x.canLay0=true->y.canLay0=true->ltD x y=some r->
 ∀(prog:Program) (w:World) (E:Value->Shared->Prop) (Q:Value->Shared->Prop),Q (.bool r) s->wpAny (model prog w) A (richCompare .Lt v u) Q E s
section
open PySem.SeqAt
open PySem.AutoSeq1 (wpAny_loadPart')
open PySem.MeetsSeq PySem.MeetsSeq2 PySem.MeetsSeq3
theorem zI2 (l b:Addr)(items c:Array Value)(n Y:Nat)(dd L:Option Addr)(sl O:Array (Option Value))(xs ys:List PyData)(z:Bool)(F:lY xs ys=some z)(hcx:PyData.canLayAll0 xs=true)(hcy:PyData.canLayAll0 ys=true):
  Meets (Builtin.«tuple.__lt__» ⟨[.ref l,.ref b],[]⟩)
   (λA R s=>s.heap.get? l=some {cls:=.type "tuple",dict:=dd,data:=.seq items n,slots:=sl}/\s.heap.get? b=some {cls:=.type "tuple",dict:=L,data:=.seq c Y,slots:=O}/\
    (∃as bs,ReadsAll s.heap items.toList xs as/\ReadsAll s.heap c.toList ys bs)/\A.units+1+PyData.depthAll xs<cLine/\(∀x∈xs,∀y,zB9 A.in1 s x y)/\R (.ok (.ret (.bool z))) s):=
 .of_wp λprog w A R s h=>by
  obtain⟨H,g,d,tk,os⟩:=s;obtain⟨X,hb,⟨as,bs,J,T⟩,S,B,h⟩:=h;have f2:=AutoSeq1.sub_tuple_tuple;have P:items.size=xs.length:=by simpa using SeqAt.ReadsAll.length _ _ _ J
  have V:c.size=ys.length:=by simpa using SeqAt.ReadsAll.length _ _ _ T
  wp_walk using yh3 X,yh3 hb,wpAny_forIn_list _ (λrest b s'=>b.1=none/\s'=⟨H,g,d,tk,os⟩/\∃(vs ws:List Value) (f i:List PyData) (r m:List Addr),rest=vs.zip ws/\
   ReadsAll H vs f r/\ReadsAll H ws i m/\f.length+c.size=i.length+items.size/\lY f i=some z/\PyData.canLayAll0 f=true/\PyData.canLayAll0 i=true/\(∀x∈f,x∈xs)) _
  case turn=>
   rintro⟨y,x⟩ rest b s' ⟨p,rfl,vs,ws,f,i,r,m,hz,M,I,hlen,k,D,C,j⟩;cases M with
   |nil=>rw[List.zip_nil_left]at hz;cases hz
   |@cons v vs' d0 ds0 a1 a2 p1 t=>
    cases I with
    |nil=>rw[List.zip_nil_right]at hz;cases hz
    |@cons u us' e0 es0 U Z p2 q=>
     rw[List.zip_cons_cons]at hz;injection hz with N o;injection N with hy G;subst hy G;simp only[PyData.canLayAll0,z21]at D C;have hd:d0.depth<=PyData.depthAll xs:=by
      have hm:=j d0 zY9;clear B j h J F hcx P
      induction xs with
      |nil=>cases hm
      |cons a as W=>
       simp only[PyData.depthAll];rcases zY4.mp hm with rfl|hm
       ·exact Nat.le_max_left _ _
       ·refine zY8 (W ?_ hm) (Nat.le_max_right _ _);simp only[PyData.depthAll]at S;have:=Nat.le_max_right a.depth (PyData.depthAll as);exact zs4 S
     have hm:min d0.depth e0.depth<=d0.depth:=Nat.min_le_left _ _;have he:=SeqAt.eqAt_reads d0 e0 A.in1 ⟨H,g,d,tk,os⟩ _ _ _ _ p1 p2 D.1 C.1 (by show A.units+1+min d0.depth e0.depth<cLine;lia);simp only[z00]at hlen;unfold lY at k;refine zX5 (he prog w _ _ ?_);cases e:PyData.eqv d0 e0 with
     |true=>
      rw[e,if_pos rfl]at k
      wp_walk
      exact⟨rfl,rfl,_,_,_,_,_,_,o,t,q,(zR0 hlen),k,D.2,C.2,λx G=>j x (zY6 _ G)⟩
     |false=>
      rw[e,if_neg (by decide)]at k;have K:=λE Q hq=>B d0 (j d0 zY9) e0 _ _ _ _ z p1 p2 D.1 C.1 k prog w E Q hq
      wp_walk using K
      exact⟨_,rfl,by simpa using h⟩
  case fin=>
   rintro⟨U,Z⟩ s' ⟨p,rfl,vs,ws,f,i,r,m,hz,M,I,hlen,k,D,C,j⟩;simp only at p;subst p;have hv:z=decide (items.size<c.size):=by
    cases M with
    |nil=>
     cases I with
     |nil=>
      cases k;simp only[ye1]at hlen;exact(z06 (zQ0 hlen)).symm
     |cons p2 q=>
      cases k;simp only[ye1,z00]at hlen;exact(z28 (zO6 hlen)).symm
    |cons p1 t=>
     cases I with
     |nil=>
      cases k;simp only[ye1,z00]at hlen;exact(z06 (zN4 hlen)).symm
     |cons p2 q=>
      rw[List.zip_cons_cons]at hz;cases hz
   rw[hv]at h
   wp_walk
   exact⟨_,rfl,by simpa[Builtin.Tuple.tupleCompareSizes]using h⟩
  case h=>
   exact⟨rfl,rfl,items.toList,c.toList,xs,ys,as,bs,rfl,J,T,(zR6 P V),F,hcx,hcy,λx G=>G⟩
end
mutual
theorem qv :∀(d:PyData) (e:PyData) (A:Around) (s:Shared),A.units+d.depth<cLine->zB9 A s d e
 |.int a,e,A,s,g=>λv u as bs r c f _ _ h prog w E Q q=>by
  cases e with
  |int b=>
   cases h;cases c;cases f;exact(PyProof.Rows.lt_int q:wpAny (model prog w) A (compareOp .Lt _ _) Q E s)
  |_=>cases h
 |.str a,e,A,s,g=>λv u as bs r c f _ _ h prog w E Q q=>by
  cases e with
  |str b=>
   cases h;cases c;cases f;exact(lt_str q:wpAny (model prog w) A (compareOp .Lt _ _) Q E s)
  |_=>cases h
 |.tuple xs,e,A,s,g=>λv u as bs r c f n m h prog w E Q q=>by
  cases e with
  |tuple ys=>
   cases c with
   |@tuple a1 o1 vs n1 _ _ g1 g2 g3 g4=>
    cases f with
    |@tuple a2 o2 ws n2 _ _ k1 k2 k3 k4=>
     obtain⟨cls,dd,data,sl⟩:=o1;obtain⟨l,j,data2,k⟩:=o2;simp only at g2 g3 k2 k3;subst g2 g3 k2 k3;have i:A.units+1+PyData.depthAll xs<cLine:=by
      simp only[PyData.depth]at g
      lia
     exact richCompare_meets_room (op:=.Lt) ⟨_,g1,rfl⟩ ⟨_,k1,rfl⟩ PySem.F.slot_tuple_lt PySem.F.entry_tuple_lt (PySem.F.args_tuple_lt_2 _ _) (zI2 a1 a2 vs ws n1 n2 dd j sl k xs ys r h (by simpa only[PyData.canLay0]using n) (by simpa only[PyData.canLay0]using m))
      ⟨g1,k1,⟨_,_,g4,k4⟩,i,nV xs A.in1 s (show A.units+1+PyData.depthAll xs<cLine from i),show Value.bool r≠Value.notImplemented/\Q (.bool r) s from⟨(λx=>nomatch x),q⟩⟩ (z02 (zZ3 _ _) g)
  |_=>cases h
 |.none,e,A,s,g=>λv u as bs r c f _ _ h=>by cases e<;>cases h
 |.bool _,e,A,s,g=>λv u as bs r c f _ _ h=>by cases e<;>cases h
 |.list _,e,A,s,g=>λv u as bs r c f _ _ h=>by cases e<;>cases h
 |.dict _,e,A,s,g=>λv u as bs r c f _ _ h=>by cases e<;>cases h
theorem nV :∀(xs:List PyData) (A:Around) (s:Shared),A.units+PyData.depthAll xs<cLine->∀x∈xs,∀y,zB9 A s x y
 |[],A,s,a=>λx b=>by cases b
 |d::ds,A,s,a=>λx b y=>by
  simp only[PyData.depthAll]at a;have f:=Nat.le_max_left d.depth (PyData.depthAll ds);have c:=Nat.le_max_right d.depth (PyData.depthAll ds);by_cases e:x=d
  ·rw[e];exact qv d y A s (by lia)
  ·exact nV ds A s (zs4 a) x ((zY4.mp b).resolve_left e) y
end
section
variable {prog:Program}{w:World}{A:Around}{R:Result->Shared->Prop}{it:Addr}{fp wr:List Addr}{m:Nat}{P:Nat->Value->Prop}{St:Nat->Heap->Prop}
def rn (h0 h:Heap):Prop:=∀b o,h0.get? b=some o->h.get? b=some o
def zG5 (prog:Program)(w:World)(A:Around)(h0:Heap)(P:Nat->Value->Prop)(bt:Nat->Nat->Bool):Prop:=
 ∀i j x y (s:Shared) (Q:Value->Shared->Prop) (E:Value->Shared->Prop),P i x->P j y->rn h0 s.heap->Q (.bool (bt i j)) s->wpAny (model prog w) A (richCompare .Lt x y) Q E s
theorem eM (h0:Heap)(W:Walks prog w A.in1 it fp wr m P St)(bt:Nat->Nat->Bool)(F:zG5 prog w A.in1 h0 P bt)(D:Addr)(hD:D∉fp)(B:h0.get? D=none)(v:∀b∈wr,h0.get? b=none):
  ∀(k j:Nat) (s:Shared) (x:Value) (c:Nat),m-(j+1)=k->j+1<=m->St (j+1) s.heap->rn h0 s.heap->P (argBest bt j) x->
  s.heap.get? D=some {cls:=.type "list",dict:=none,data:=.seq #[x,x] c,slots:=#[]}->
  (∀y h' tk,P (argBest bt (m-1)) y->(∀b o,b∉wr->b≠D->s.heap.get? b=some o->h'.get? b=some o)->R (.ok (.ret y)) {s with heap:=h',toks:=tk})->
  codeAny (model prog w) A (.builtin "min.loop" ⟨[.ref it,.none,.ref D],[]⟩) R s:=by
 have p:D∉wr:=λq=>hD (W.sub _ q);have nm:(toString "min"++toString ".loop":String)="min.loop":=by decide
 intro k;induction k with
 |zero=>
  intro j s x c hk E st kp px n r;have e:j+1=m:=(zu4 hk E);refine ya1 yg0 ?_;rw[z75 z66 _];show wpAny _ A.in1 (seqItems? (.ref D) >>= _) _ _ s;refine zX5 (z49 n rfl ?_);show wpAny _ A.in1 (tryCatch (pyNext (.ref it)) _ >>= _) _ _ s;refine zX5 (yf0 (W.done s _ _ (e▸st) λh' tk d=>?_));have a:=d D _ p n;show wpAny _ A.in1 (updateSeq D (λ_=>#[]) >>= _) _ _ _;refine zX5 (z78 a rfl (zX5 (z95 (zY3 ?_))));exact r x _ tk (by rw[<-e];exact px) λb o g l q=>(zZ2 _ _ (z24 l)).trans (d b o g q)
 |succ k C=>
  intro j s x c hk E st kp px n r;have lt:j+1<m:=(zx5 hk);refine ya1 yg0 ?_;rw[z75 z66 _];show wpAny _ A.in1 (seqItems? (.ref D) >>= _) _ _ s;refine zX5 (z49 n rfl ?_);show wpAny _ A.in1 (tryCatch (pyNext (.ref it)) _ >>= _) _ _ s;refine zX5 (yf0 (W.item (j+1) s _ _ lt st λy h' tk py i d=>?_));have a:=d D _ p n;have h:rn h0 h':=λb o q=>d b o (λz=>by rw[v b z]at q;cases q) (kp b o q);show wpAny _ A.in1 (tryCatch (holding [y,y] (richCompare .Lt y x >>= _)) _ >>= _) _ _ _;refine zX5 (yf0 (z34 (zX5 (F (j+1) (argBest bt j) y x _ _ _ py px h ?_))));refine zX5 (z34 (z53 (zX5 (z95 (zY3 ?_)))));cases hb:bt (j+1) (argBest bt j)with
  |true=>
   simp only[yb2];refine zX5 (z78 a rfl (zX5 (z95 ?_)));rw[nm];refine zY3 ⟨z84 z66 _,C (j+1) _ y _ (cN hk) lt (W.frame _ _ _ i λb hf o q=>?_) (λb o q=>?_) (by simp only[argBest,hb,yb2];exact py) (z48 _ a rfl) λz l f u kz=>?_⟩
   ·exact(zZ2 _ _ (λz:D=b=>hD (by rw[z];exact hf))).trans q
   ·exact(zZ2 _ _ (λz:D=b=>by rw[<-z,B]at q;cases q)).trans (h b o q)
   ·exact r z l f u λb o g t q=>kz b o g t ((zZ2 _ _ (z24 t)).trans (d b o g q))
  |false=>
   simp only[z27,z73];refine zX5 (z95 ?_);rw[nm];refine zY3 ⟨z84 z66 _,C (j+1) _ x c (cN hk) lt i h (by simp only[argBest,hb,z27,z73];exact px) a λz l f u kz=>?_⟩;exact r z l f u λb o g t q=>kz b o g t (d b o g q)
theorem kZ (h0:Heap)(W:Walks prog w A.in1 it fp wr m P St)(bt:Nat->Nat->Bool)(t:zG5 prog w A.in1 h0 P bt)(D:Addr)(hD:D∉fp)(d:h0.get? D=none)(a:∀b∈wr,h0.get? b=none)(hm:0<m){s:Shared}{c:Nat}(st:St 0 s.heap)(kp:rn h0 s.heap)
  (l:s.heap.get? D=some {cls:=.type "list",dict:=none,data:=.seq #[] c,slots:=#[]})
  (u:∀y h' tk,P (argBest bt (m-1)) y->(∀b o,b∉wr->b≠D->s.heap.get? b=some o->h'.get? b=some o)->R (.ok (.ret y)) {s with heap:=h',toks:=tk}):
  codeAny (model prog w) A (.builtin "min.loop" ⟨[.ref it,.none,.ref D],[]⟩) R s:=by
 have i:D∉wr:=λq=>hD (W.sub _ q);have nm:(toString "min"++toString ".loop":String)="min.loop":=by decide
 refine ya1 yg0 ?_;rw[z75 z66 _];show wpAny _ A.in1 (seqItems? (.ref D) >>= _) _ _ s;refine zX5 (z49 l rfl ?_);show wpAny _ A.in1 (tryCatch (pyNext (.ref it)) _ >>= _) _ _ s;refine zX5 (yf0 (W.item 0 s _ _ hm st λy h' tk py j f=>?_));have e:=f D _ i l;have h:rn h0 h':=λb o q=>f b o (λz=>by rw[a b z]at q;cases q) (kp b o q);show wpAny _ A.in1 (updateSeq D (λ_=>#[y,y]) >>= _) _ _ _;refine zX5 (z78 e rfl ?_);rw[nm];refine zY3 ⟨z84 z66 _,eM h0 W bt t D hD d a _ 0 _ y _ rfl hm (W.frame _ _ _ j λb hf o q=>?_) (λb o q=>?_) py (z48 _ e rfl) λz r g p kz=>?_⟩
 ·exact(zZ2 _ _ (λz:D=b=>hD (by rw[z];exact hf))).trans q
 ·exact(zZ2 _ _ (λz:D=b=>by rw[<-z,d]at q;cases q)).trans (h b o q)
 ·exact u z r g p λb o k n q=>kz b o k n ((zZ2 _ _ (z24 n)).trans (f b o k q))
end
section
variable {prog:Program}{w:World}{A:Around}{E:Value->Shared->Prop}{s:Shared}
theorem fF {l:Addr}{items:Array Value}{bt:Nat->Nat->Bool}{Q:Value->Shared->Prop}(h:A.handled=none)(c:s.heap.IsList l items)(h0:0<items.size)(f:zG5 prog w A.in1 s.heap (λi v=>items[i]?=some v) bt)
  (g:∀v h' tk,items[argBest bt (items.size-1)]?=some v->rn s.heap h'->Q v {s with heap:=h',toks:=tk}):wpAny (model prog w) A (call (.builtin "min") [.ref l]) Q E s:=by
 have nm:(toString "min"++toString ".loop":String)="min.loop":=by decide
 have a:l<s.heap.objs.size:=by obtain⟨_,e,_⟩:=c;exact zY5 e
 refine call_function_tree PySem.F.kind_min PySem.F.plain_min PySem.F.entry_min (PySem.F.args_min1 _) ?_;show wpAny _ A.in1 (Builtin.Builtins.bindParams "min" ["key","default"] 0 ⟨[],[]⟩ >>= _) _ _ s;refine zX5 (wpAny_of_eq (show Builtin.Builtins.bindParams "min" ["key","default"] 0 ⟨[],[]⟩=pure [none,none]from rfl) (zX5 (zY3 ?_)));refine zX5 (z67 c ?_);refine zX5 (wpAny_newObj_type ?_);rw[nm];have W:=Walks.list (prog:=prog) (w:=w) (A:=A.in1) h s.heap.objs.size l (zZ7 a) items;have up:rn s.heap ((s.heap.push {cls:=.type "list_iterator",data:=.fields #[.ref l,.int 0 0]}).push {cls:=.type "list",data:=.seq #[]}):=λb o e=>zX6 _ (zX6 _ e);have sz:(s.heap.push {cls:=.type "list_iterator",data:=.fields #[.ref l,.int 0 0]}).objs.size=s.heap.objs.size+1:=z54 _ _;refine zY3 ⟨z84 z66 _,kZ s.heap W bt f _ (λq=>?_) (yc5 (by rw[sz];exact z64 _)) (λb hb=>?_) h0 (W.frame 0 (s.heap.push {cls:=.type "list_iterator",data:=.fields #[.ref l,.int 0 0]}) _ ⟨⟨_,zY7 _ rfl,rfl,rfl⟩,c.push _⟩ λb _ o e=>zX6 _ e) up (zY7 _ rfl) λv h' tk pv d=>?_⟩
 ·rcases zY4.mp q with z|z
  ·rw[sz]at z;exact absurd z (Nat.succ_ne_self _)
  ·rw[zY2,sz]at z;exact absurd a (by rw[<-z];exact Nat.not_lt.mpr (z64 _))
 ·rw[zY2.mp hb];exact yc5 (zY1 _)
 ·refine g v h' tk pv λb o e=>d b o (λz=>?_) (λz=>?_) (up b o e)
  ·rw[zY2.mp z]at e;exact absurd (zY5 e) (z33 _)
  ·have:=zY5 e;rw[z,sz]at this;exact absurd this (Nat.not_lt.mpr (z64 _))
end
def ur (ds:List PyData)(i j:Nat):Bool:=match ds[i]?,ds[j]? with
 |some x,some y=>(ltD x y).getD false
 |_,_=>false
def minD :List PyData->PyData
 |[]=>.none
 |d::ds=>ds.foldl (λb x=>if(ltD x b).getD false=true then x else b) d
theorem kK (d:PyData)(ds:List PyData)(x:PyData):minD (d::(ds++[x]))=if(ltD x (minD (d::ds))).getD false=true then x else minD (d::ds):=by
 show List.foldl _ d (ds++[x])=_;rw[List.foldl_append];rfl
theorem lG {ds:List PyData}{i j:Nat}{x y:PyData}(b:ds[i]?=some x)(a:ds[j]?=some y):ur ds i j=(ltD x y).getD false:=by
 unfold ur;rw[b,a]
theorem aA (ds:List PyData):∀k,k<ds.length->ds[argBest (ur ds) k]?=some (minD (ds.take (k+1))):=by
 intro k
 induction k with
 |zero=>
  intro h;cases ds with
  |nil=>simp at h
  |cons d ds=>simp[argBest,minD]
 |succ k f=>
  intro h;have a:=f (z02 (zZ3 _ _) h);cases ds with
  |nil=>simp at h
  |cons d ds=>
   have c:(d::ds)[k+1]?=some (d::ds)[k+1]:=zY0 h;have tk:(d::ds).take (k+1+1)=d::(ds.take k++[(d::ds)[k+1]]):=by
    have hk:k<ds.length:=by simpa using h
    rw[yd4,z45,zY0 hk];rfl
   have b:(d::ds).take (k+1)=d::ds.take k:=yd4;rw[tk,kK,<-b];have e:ur (d::ds) (k+1) (argBest (ur (d::ds)) k)=(ltD (d::ds)[k+1] (minD ((d::ds).take (k+1)))).getD false:=lG c a;simp only[argBest];rw[e];split
   ·exact c
   ·exact a
theorem uP {X:Cx}{pins:List (Addr×Obj)}{σ:St}{H:Hp}{s:Shared}(I:Inv X pins σ H s):∀{xs:List V}{ds:List PyData}{us:List Value}{i:Nat}{d:PyData},DVs H xs ds->Vals xs us->ds[i]?=some d->∃u as,us[i]?=some u/\Reads s.heap u d as
 |_,_,_,_,_,.nil,_,e=>by simp at e
 |_,_,_,i,d,.cons hx hs,.cons (b:=u) ru rs,e=>by
  cases i with
  |zero=>
   simp at e;subst e;obtain⟨as,g⟩:=hx.reads I ru;exact⟨u,as,rfl,g⟩
  |succ i=>
   obtain⟨f,as,c,a⟩:=uP I hs rs (i:=i) (by simpa using e);exact⟨f,as,by simpa using c,a⟩
def zI7 (ds:List PyData):Prop:=∀x∈ds,∀y∈ds,(ltD x y).isSome=true
section
variable {X:Cx}{α:Ev}{e:Expr}{pos p:Pos}{Q:PyData->Prop}
theorem gE (J:X.calm=true)(R:X.A.units+70<cLine):yI X (.builtin "min") (λxs H Q=>∃(l:Addr) (vs:List V) (ds:List PyData),xs=[.ref l]/\H l=some (.lst vs)/\DVs H vs ds/\ds≠[]/\zI7 ds/\(∀d∈ds,d.canLay0=true/\d.depth<=60)/\∀(i:Nat) (v:V),vs[i]?=some v->ds[i]?=some (minD ds)->Q v H):=by
 intro pins s σ H xs us Q I r h;obtain⟨l,vs,ds,rfl,F,dv,ne,D,sh,q⟩:=h;obtain⟨u,rfl,M⟩:=vals1 r;cases M;obtain⟨its,b,pl,hz⟩:=I.list (SqL.of F);have l1:=b.length;have l2:vs.length=ds.length:=dv.length;have h0:0<ds.length:=List.length_pos_iff.mpr ne;refine fF (bt:=ur ds) (I.ok.hd J) pl.isList (by simp;exact zX8 h0 (zZ5 (Eq.trans l2.symm l1))) ?_ λv h' tk n kp=>?_
 ·intro i j x y s2 S O m hy kp B;have hi:i<ds.length:=by have:=(z63.mp m).1;simp at this;exact zX8 this (zZ5 (Eq.trans l1.symm l2))
  have k:j<ds.length:=by have:=(z63.mp hy).1;simp at this;exact zX8 this (zZ5 (Eq.trans l1.symm l2))
  have t:ds[i]?=some ds[i]:=zY0 hi;have w:ds[j]?=some ds[j]:=zY0 k;obtain⟨z,C,g1,g2⟩:=uP I dv b t;obtain⟨K,L,g3,E⟩:=uP I dv b w;have e1:z=x:=by have:=m;simp at this;rw[g1]at this;exact z07 this
  have G:K=y:=by have:=hy;simp at this;rw[g3]at this;exact z07 this
  subst e1 G;obtain⟨o,a⟩:=ye3.mp (D _ (z93 hi) _ (z93 k));have g:=sh _ (z93 hi);have c:=sh _ (z93 k);refine qv ds[i] ds[j] X.A.in1 s2 (by show X.A.units+1+_<cLine;lia) _ _ _ _ o (Reads.keeps kp g2) (Reads.keeps kp E) g.1 c.1 a _ _ _ _ ?_;have:ur ds i j=o:=by rw[lG t w,a];rfl
  rw[<-this];exact B
 ·have hb:=aA ds (ds.length-1) (sv h0);have N:its.toArray.size-1=ds.length-1:=by simp;lia
  rw[N]at n;rw[show ds.length-1+1=ds.length by omega,z40]at hb;have f:its[argBest (ur ds) (ds.length-1)]?=some v:=by simpa using n
  have hi:argBest (ur ds) (ds.length-1)<vs.length:=by have:=(zX9.mp hb).1;exact zX8 this (zZ5 l2.symm)
  obtain⟨P,g1,g2⟩:=b.get (zY0 hi);rw[f]at g1;cases g1;exact⟨_,H,I.kept (t':=tk) kp,g2,q _ _ (zY0 hi) hb⟩
theorem zg9 (f:X.calm=true)(g:X.A.units+70<cLine)(hg:Gl X "min")(hm:X.mg "min"=none)(h:EvD X α e λx=>∃ds,x=.list ds/\ds≠[]/\PyData.hasDictAll ds=false/\zI7 ds/\(∀d∈ds,d.canLay0=true/\d.depth<=60)/\Q (minD ds))(he:starEach [e] X.env=(false,eval e X.env)::starEach [] X.env:=by rfl):
  EvD X α (.Call (.Name "min" p) [e] [] pos) Q:=by
 refine xA (gE f g) hg hm boot_min (zq (h.imp λx b=>?_) he) (he:=he);obtain⟨ds,e1,ne,nd,n,sh,q⟩:=b;refine zH ?_;intro F σ H vs R m j k;subst e1;obtain⟨v,rfl,av⟩:=j.one;obtain⟨a,xs,rfl,l,c⟩:=av.lst_inv;refine⟨a,xs,ds,rfl,(zb l).2,(c.dv nd).same yz,ne,n,sh,λi v o hd=>?_⟩;obtain⟨r,g1,g2⟩:=c.get hd;rw[o]at g1;cases g1;exact k _ _ H q m.tp Kz.refl g2
def sV :List Int->Int
 |[]=>0
 |z::zs=>zs.foldl (λb x=>if b<x then x else b) z
theorem fH (d:Int)(ds:List Int)(x:Int):sV (d::(ds++[x]))=if sV (d::ds)<x then x else sV (d::ds):=by
 show List.foldl _ d (ds++[x])=_;rw[List.foldl_append];rfl
def eX (zs:List Int)(i j:Nat):Bool:=decide (zs.getD i 0 > zs.getD j 0)
theorem zl6 {zs:List Int}{i j:Nat}{x y:Int}(b:zs[i]?=some x)(a:zs[j]?=some y):eX zs i j=decide (y<x):=by
 unfold eX;rw[z08,z08,b,a];rfl
theorem cF (zs:List Int):∀k,k<zs.length->zs[argBest (eX zs) k]?=some (sV (zs.take (k+1))):=by
 intro k
 induction k with
 |zero=>
  intro h;cases zs with
  |nil=>simp at h
  |cons d ds=>simp[argBest,sV]
 |succ k f=>
  intro h;have a:=f (z02 (zZ3 _ _) h);cases zs with
  |nil=>simp at h
  |cons d ds=>
   have c:(d::ds)[k+1]?=some (d::ds)[k+1]:=zY0 h;have tk:(d::ds).take (k+1+1)=d::(ds.take k++[(d::ds)[k+1]]):=by
    have hk:k<ds.length:=by simpa using h
    rw[yd4,z45,zY0 hk];rfl
   have b:(d::ds).take (k+1)=d::ds.take k:=yd4;rw[tk,fH,<-b];have e:eX (d::ds) (k+1) (argBest (eX (d::ds)) k)=decide (sV ((d::ds).take (k+1))<(d::ds)[k+1]):=zl6 c a;simp only[argBest];rw[e];by_cases z:sV ((d::ds).take (k+1))<(d::ds)[k+1]
   ·rw[z28 z,if_pos rfl,if_pos z];exact c
   ·rw[z06 z,if_neg (by decide),if_neg z];exact a
theorem eR (k:X.calm=true):yI X (.builtin "max") (λxs H Q=>∃(l:Addr) (zs:List Int),xs=[.ref l]/\H l=some (.lst (zs.map V.int))/\zs≠[]/\Q (.int (sV zs)) H):=by
 intro pins s σ H xs us Q I r h;obtain⟨l,zs,rfl,j,ne,q⟩:=h;obtain⟨u,rfl,m⟩:=vals1 r;cases m;obtain⟨its,f,pl,hz⟩:=I.list (SqL.of j);have l1:=f.length;rw[zX7]at l1;have h0:0<zs.length:=List.length_pos_iff.mpr ne;have a:l<s.heap.objs.size:=by obtain⟨_,e,_⟩:=pl.isList;exact zY5 e
 have val:∀i v,its.toArray[i]?=some v->∃t,v=Value.int (zs.getD i 0) t:=λi v d=>by
  have c:its[i]?=some v:=by simpa using d
  have hi:i<(zs.map V.int).length:=by rw[zX7,l1];exact(zX9.mp c).1
  obtain⟨w,g1,g2⟩:=f.get (zY0 hi);rw[c]at g1;cases g1;rw[List.getElem_map]at g2;obtain⟨t,rfl⟩:=g2;refine⟨t,?_⟩;rw[zX7]at hi;rw[z08,zY0 hi];rfl
 refine call_max_walk (z67 pl.isList ⟨s.heap.objs.size,[s.heap.objs.size,l],[s.heap.objs.size],_,_,_,eX zs,rfl,Walks.list (A:=X.A.in1) (I.ok.hd k) s.heap.objs.size l (zZ7 a) its.toArray,⟨⟨_,zY7 _ rfl,rfl,rfl⟩,pl.isList.push _⟩,λb hb=>?_,by simp;exact zX8 h0 (zZ5 l1),CmpOf.ints_gt (λi=>zs.getD i 0) val,λv h' tk d g=>?_⟩)
 ·show b<(s.heap.push _).objs.size;rw[z54];rcases zY4.mp hb with z|z
  ·rw[z];exact z52 _
  ·rw[zY2.mp z];exact z89 a
 ·obtain⟨t,rfl⟩:=val _ _ d;have hb:=cF zs (zs.length-1) (sv h0);rw[show zs.length-1+1=zs.length by omega,z40]at hb;have n:its.toArray.size-1=zs.length-1:=by simp;lia
  rw[n];refine⟨.int (sV zs),H,I.kept (t':=tk) (λb o e=>g b o (λz=>?_) (zX6 _ e)),⟨t,?_⟩,q⟩
  ·rw[zY2.mp z]at e;exact absurd (zY5 e) (z33 _)
  ·rw[z08,hb];rfl
theorem AVs.intsV {H:Hp}{xs:List V}{zs:List Int}(h:AVs H xs (zs.map .int)):xs=zs.map V.int:=by
 induction zs generalizing xs with
 |nil=>cases h;rfl
 |cons n ns b=>cases h with
  |cons h a=>rw[z03,b a,h.int_inv]
theorem zj2 (f:X.calm=true)(hg:Gl X "max")(hm:X.mg "max"=none)(h:EvD X α e λx=>∃zs:List Int,x=.list (zs.map .int)/\zs≠[]/\Q (.int (sV zs)))(he:starEach [e] X.env=(false,eval e X.env)::starEach [] X.env:=by rfl):
  EvD X α (.Call (.Name "max" p) [e] [] pos) Q:=by
 refine xA (eR f) hg hm boot_max (zq (h.imp λx b=>?_) he) (he:=he);obtain⟨zs,e1,ne,q⟩:=b;refine zH ?_;intro F σ H vs R m g k;subst e1;obtain⟨v,rfl,av⟩:=g.one;obtain⟨a,xs,rfl,i,d⟩:=av.lst_inv;have c:=(zb i).2;rw[d.intsV]at c;exact⟨a,zs,rfl,c,ne,k _ _ H q m.tp Kz.refl (.int _)⟩
end
theorem kj :typeLookup (.type "list_reverseiterator") "__len__"=pure none:=by rw[ye0,ya2];kernel_rfl
theorem aW :typeLookup (.type "list_reverseiterator") "__length_hint__"=pure (some (.builtin "list_reverseiterator.__length_hint__")):=by rw[ye0,ya2];kernel_rfl
section
variable {prog:Program}{w:World}{A:Around}{E:Value->Shared->Prop}{s:Shared}{it l:Addr}{items:Array Value}
theorem aD {Q:Bool->Shared->Prop}(hT:s.TypeIs (.ref it) "list_reverseiterator")(h:Q false s):wpAny (model prog w) A (Builtin.List.listLengthHint (.ref it)) Q E s:=by
 unfold Builtin.List.listLengthHint;refine zX5 (yd8 hT kj ?_);show wpAny _ _ (specialOf (Value.ref it) (Str.ofString "__length_hint__") >>= _) _ _ _;refine zX5 (yd8 hT aW ?_);generalize a:("list_reverseiterator.__length_hint__":String)=id0
 wp_delta
 rw[show splitId id0=some ("list_reverseiterator","__length_hint__")from by subst a;decide +kernel];subst a;refine zX5 (wpAny_isInstance (T:="list_reverseiterator") (b:=true) hT (by rw[isSubtype_type];kernel_rfl) ?_);refine yb5 (λq=>absurd q (by decide)) λ_=>?_;refine yb5 (λ_=>?_) λq=>absurd (by decide +kernel) q;refine yb5 (λq=>absurd q (by decide +kernel)) λ_=>?_;exact zY3 h
theorem qp {Q:Value->Shared->Prop}(H:A.handled=none)(hne:l≠it)(hr:s.heap.IsRevIter it l ((items.size:Int)-1))(y:s.heap.IsList l items)(hn:items.size<=sizeLine)
  (C:∀h' tk acc c,(∀b o,b≠it->s.heap.get? b=some o->h'.get? b=some o)->h'.get? s.heap.objs.size=some {cls:=.type "list",dict:=none,data:=.seq acc c,slots:=#[]}->ItemsOf (λi v=>items[items.size-1-i]?=some v) acc items.size->Q (.ref s.heap.objs.size) {s with heap:=h',toks:=tk}):
  wpAny (model prog w) A (call (.type "list") [.ref it]) Q E s:=by
 refine callType_codes (Q₁:=λobj f=>obj=.ref s.heap.objs.size/\f={s with heap:=s.heap.push {cls:=.type "list",data:=.seq #[]}}) PySem.F.called_list (PySem.F.typeCall_list_1 _) PySem.F.entry_list_init
  (code_list_new _ ⟨rfl,rfl⟩) λobj f p=>?_
 obtain⟨rfl,rfl⟩:=p;generalize d:s.heap.objs.size=S at C ⊢;have t:(s.heap.push {cls:=.type "list",data:=.seq #[]}).get? S=some {cls:=.type "list",data:=.seq #[]}:=by rw[<-d];exact zY7 _ rfl
 have up:∀b o,s.heap.get? b=some o->(s.heap.push {cls:=.type "list",data:=.seq #[]}).get? b=some o:=λb o e=>zX6 _ e;have B:it≠S:=by obtain⟨o,e,_⟩:=id hr;rw[<-d];exact zZ7 (zY5 e)
 have K:l≠S:=by obtain⟨o,e,_⟩:=id y;rw[<-d];exact zZ7 (zY5 e)
 have r:∀{b:Addr} {o:Obj},s.heap.get? b=some o->b≠S:=λe=>by rw[<-d];exact zZ7 (zY5 e)
 have W:=Walks.listRev (prog:=prog) (w:=w) (A:=A.in1.in1) H it l hne items;have u:S∉[it,l]:=by simp only[zY4,zZ8,z32,not_or];exact⟨z24 B,z24 K⟩
 refine⟨⟨_,t,rfl⟩,PySem.F.args_list_init_2 _ _,?_⟩;show wpAny _ _ (do let old <-Builtin.List.listItems (.ref S);Builtin.List.listUpdate (.ref S) (λ_=>#[]);letGo old.toList.reverse;Builtin.List.listExtendWith (.ref S) (.ref it) .none) _ _ _;refine zX5 ?_;unfold Builtin.List.listItems;refine zX5 (z49 t rfl (zY3 ?_));show wpAny _ _ (updateSeq S (λ_=>#[]) >>= λ_=>letGo (#[]:Array Value).toList.reverse >>= λ_=>Builtin.List.listExtendWith (.ref S) (.ref it) .none) _ _ _;refine zX5 (z78 t rfl ?_);obtain⟨L,g⟩:∃I,((s.heap.push {cls:=.type "list",data:=.seq #[]}).update S (Obj.mapSeq (λ_=>(#[]:Array Value)))).get? S=some {cls:=.type "list",dict:=none,data:=.seq #[] I,slots:=#[]}:=⟨_,z61 (c:="list") t λ_=>#[]⟩;have j:∀b o,s.heap.get? b=some o->((s.heap.push {cls:=.type "list",data:=.seq #[]}).update S (Obj.mapSeq (λ_=>(#[]:Array Value)))).get? b=some o:=
  λb o e=>(zZ2 _ _ (z24 (r e))).trans (up b o e)
 refine zX5 (z95 ?_);have hT:({s with heap:=(s.heap.push {cls:=.type "list",data:=.seq #[]}).update S (Obj.mapSeq (λ_=>(#[]:Array Value)))}:Shared).TypeIs (.ref it) "list_reverseiterator":=Heap.IsRevIter.typeIs (hr.at λo e=>j _ o e);unfold Builtin.List.listExtendWith;refine zX5 (yh6 hT ?_);have D:Builtin.List.listSameRef (.ref S) (.ref it)=false:=by simp[Builtin.List.listSameRef];exact z24 B
 have J:(Value.type "list_reverseiterator" == Value.type "list")=false:=by decide
 have G:(Value.type "list_reverseiterator" == Value.type "tuple")=false:=by decide
 simp only[D,J,G,yd2,z27,z73];refine zX5 (wpAny_pyIter_revIter (hr.at λo e=>j _ o e) ?_);refine zX5 (z34 (aD hT ?_));have key:∀(h:Heap) (c₁ tk:Nat),h.get? S=some {cls:=.type "list",dict:=none,data:=.seq #[] c₁,slots:=#[]}->(∀b o,s.heap.get? b=some o->h.get? b=some o)->codeAny (model prog w) A.in1 (.builtin "list.extend.loop" ⟨[.ref S,.ref it,.none],[]⟩) (wants (λv s'=>v=.none/\Q (.ref S) s') E) {s with heap:=h,toks:=tk}:=by
  intro h c₁ tk x a;refine codeAny_extend_loopS W.toS hn S u .none items.size 0 _ #[] c₁ rfl (zZ4 _) ⟨zZ4 _,by simpa using hr.at λo e=>a _ o e,y.at λo e=>a _ o e⟩ x (ItemsOf.nil _) λs' n c' hm k m=>?_;rw[Moved.eq_with hm];refine⟨rfl,C s'.heap s'.toks n c' (λb o hb e=>hm.heap b o (λz=>?_) (a b o e)) k m⟩;rcases zY4.mp z with z|z
  ·exact r e z
  ·exact hb (zY2.mp z)
 refine yb5 (λq=>absurd q (by decide)) (λ_=>zY3 ⟨z84 z69 _,key _ _ _ g j⟩)
end
section
variable {X:Cx}{α:Ev}{a e c:Expr}{p p0 pos pos2:Pos}{Q:List PyData->Prop}
theorem jj {A:TA}(O:X.calm=true)(hgl:Gl X "list")(r:X.mg "list"=none)(hg:Gl X "reversed")(hm:X.mg "reversed"=none)(ha:PA X [a] A)
  (g:starEach [.Call (.Name "reversed" p) [a] [] pos2] X.env=[(false,eval (.Call (.Name "reversed" p) [a] [] pos2) X.env)]:=by rfl) (W:starEach [a] X.env=[(false,eval a X.env)]:=by rfl):
  PE X (.Call (.Name "list" p0) [.Call (.Name "reversed" p) [a] [] pos2] [] pos) (λσ H Q=>A σ H λvs H1=>∃(l:Addr) (xs:List V),vs=[.ref l]/\SqL X.K H1 l xs/\∀D,H1 D=none->Q (.ref D) (upd H1 D (.lst xs.reverse))):=by
 intro pins s σ H Q I h;refine Call_ (yT I hgl r boot_list (z30 ?_ g rfl));rw[g];show wpAny _ _ (spliced ((false,eval _ X.env)::backTo pos [])) _ _ s;refine Calls.spliced_cons ?_;refine Call_ (yT I hg hm boot_reversed (z30 (thn (ha pos2 pins s σ H _ I h) λus s1 t=>?_) W rfl));obtain⟨vs,H1,f,L,S⟩:=t;obtain⟨l,xs,rfl,hq,q⟩:=S;obtain⟨u,rfl,U⟩:=Vals.one L;cases(show u=Value.ref l from U);obtain⟨its,B,pl,hz⟩:=f.list hq;have hlen:=B.length;have v:l<s1.heap.objs.size:=by obtain⟨o,e,_⟩:=pl.isList;exact zY5 e
 refine call_reversed_list pl.isList (Calls.spliced_nil ?_);generalize m:s1.heap.objs.size=it;have C:Inv X pins σ H1 {s1 with heap:=s1.heap.push (revObj l ((its.toArray.size:Int)-1))}:=f.kept (t':=s1.toks) λb o e=>zX6 _ e;have fI:∀H',H' it=none->xi X pins H' it:=λH' hn=>by rw[<-m]at hn ⊢;exact f.fpOk (zY1 _) hn
 have P:H1 it=none:=by rw[<-m];exact f.hok.fresh (zY1 _)
 refine qp (it:=it) (l:=l) (items:=its.toArray) (f.ok.hd O) (by rw[<-m];exact zZ7 v) (by rw[<-m];exact⟨_,zY7 _ rfl,rfl,rfl⟩) (pl.isList.push _) (by simp;exact zY8 (zZ5 hlen.symm) hz) λh' tk acc c kp e G=>?_;have T:({s1 with heap:=s1.heap.push (revObj l ((its.toArray.size:Int)-1))}:Shared).heap.objs.size=s1.heap.objs.size+1:=z54 _ _;generalize hD:({s1 with heap:=s1.heap.push (revObj l ((its.toArray.size:Int)-1))}:Shared).heap.objs.size=D at e ⊢;have d:(s1.heap.push (revObj l ((its.toArray.size:Int)-1))).objs.size<=D:=by rw[<-hD];exact zY1 _
 have M:H1 D=none:=C.hok.fresh d;refine⟨.ref D,upd H1 D (.lst xs.reverse),?_,rfl,q D M⟩;refine C.turnLay (ch:=[it]) (λb o hb e=>kp b o (by simpa using hb) e) (λb hb=>by rw[zY2.mp hb];exact fI H1 P) d ⟨by rw[z80];exact hz,acc.toList,c,?_,by simpa using e⟩;have key:∀{as:List V} {bs:List Value},as.length=bs.length->(∀(j:Nat) x,as[j]?=some x->∃u,bs[j]?=some u/\RelV x u)->Vals as bs:=by
  intro as
  induction as with
  |nil=>intro bs k _;cases bs with|nil=>exact .nil|cons _ _=>simp at k
  |cons x as N=>
   intro bs k F;cases bs with
   |nil=>simp at k
   |cons y bs=>
    obtain⟨u,E,J⟩:=F 0 x rfl;simp at E;subst E;exact .cons J (N (by simpa using k) λj R i=>by simpa using F (j+1) R (by simpa using i))
 have sa:acc.size=xs.length:=by rw[G.1];simp;exact hlen.symm
 refine key (by rw[z80];exact sa.symm) λj x i=>?_;have n:j<xs.length:=by have:=(zX9.mp i).1;rwa [z80]at this
 rw[List.getElem?_reverse n]at i;obtain⟨u,g1,g2⟩:=B.get i;have z:its.toArray[its.toArray.size-1-j]?=some (acc[j]'(by omega)):=G.2 j (acc[j]'(by omega)) (by simp[show j<acc.size by omega]);refine⟨acc[j]'(by exact zX8 n (zZ5 sa.symm)),by simp[show j<acc.size by exact zX8 n (zZ5 sa.symm)],?_⟩;have e1:its.toArray.size-1-j=xs.length-1-j:=by simp;omega
 rw[e1]at z;have w:its[xs.length-1-j]?=some (acc[j]'(by exact zX8 n (zZ5 sa.symm))):=by simpa using z
 rw[g1]at w;rw[<-z07 w];exact g2
theorem AVs.reverse {H:Hp}{xs:List V}{ds:List PyData}(h:AVs H xs ds):AVs H xs.reverse ds.reverse:=by
 induction h using AVs.ind with
 |nil=>exact .nil
 |cons h _ b=>rw[List.reverse_cons,List.reverse_cons];exact b.append (.cons h .nil)
theorem kb (g:X.calm=true)(hgl:Gl X "list")(b:X.mg "list"=none)(hg:Gl X "reversed")(hm:X.mg "reversed"=none)(h:EvD X α a λx=>∃ds,x=.list ds/\Q ds.reverse)
  (d:starEach [.Call (.Name "reversed" p) [a] [] pos2] X.env=[(false,eval (.Call (.Name "reversed" p) [a] [] pos2) X.env)]:=by rfl) (f:starEach [a] X.env=[(false,eval a X.env)]:=by rfl):
  EvL X α (.Call (.Name "list" p0) [.Call (.Name "reversed" p) [a] [] pos2] [] pos) Q:=λF σ H R m k=>by
 refine⟨_,jj g hgl b hg hm (zp zg zF f) d f,?_⟩;refine h F σ H _ m λx s H1 i t1 k1 j=>?_;obtain⟨ds,rfl,q⟩:=i;have m1:=m.kz k1 t1;obtain⟨l,xs,rfl,g1,g2⟩:=j.lst_inv;refine⟨l,xs,rfl,SqL.of (zb g1).2,λD hD=>?_⟩;obtain⟨r,o,n⟩:=m1.lay hD g2.reverse;exact k _ _ _ q r (k1.trans o) (n.back m k1 t1)
theorem br {body rest:List Stmt}{E:yp}(z:PassesOwn (model X.prog X.w) X.A X.env X.xe)(P:Nat->Ev->Prop)(x:Nat)(h0:P x α)
  (C:∀n α,P n α->EvT X α c λb=>if b=true then SvS X α body {nx:=λd=>∃f,f<n/\P f d,ct:=λd=>∃f,f<n/\P f d,bk:=λd=>SvS X d rest E,rt:=E.rt}else SvS X α rest E):
  SvS X α (.While c body [] pos::rest) E:=λF σ H D m r=>by
 refine⟨_,zy (lO z xk zE) zE,?_⟩;refine⟨λn g H'=>∃d,M F d g H'/\P n d,⟨x,α,m,h0⟩,?_⟩;rintro n g H' ⟨d,v,B⟩;refine C n d B F g H' _ v λb H1 q t1 k1=>?_;have m1:=v.kz k1 t1;cases b with
 |true=>
  rw[if_pos rfl]at q ⊢;refine⟨λj o=>∃f,f<n/\∃i,M F i j o/\P f i,λj o ⟨f,k,l⟩=>⟨f,k,l⟩,?_⟩;exact q F g H1 _ m1 ⟨λh σ2 s m2 t=>by obtain⟨f,k,l⟩:=t;exact⟨f,k,h,m2,l⟩,r.rt,λh σ2 s m2 y=>y F σ2 s D m2 r,λh σ2 s m2 u=>by obtain⟨f,k,l⟩:=u;exact⟨f,k,h,m2,l⟩⟩
 |false=>
  rw[if_neg (by decide)]at q ⊢;exact q F g H1 D m1 r
end
def lH (Q:PyData->Prop):List PyData->Prop
 |[]=>True
 |d::r=>Q d/\lH Q r
theorem lH.mem {Q:PyData->Prop}:∀{ds:List PyData},lH Q ds->∀d∈ds,Q d
 |[],_,d,h=>by cases h
 |x::r,h,d,hd=>by
  rcases zY4.mp hd with rfl|hd
  ·exact h.1
  ·exact lH.mem h.2 d hd
theorem zk5 {x:PyData}{ds:List PyData}{v:Int}{Q:PyData->Prop}(a:wA x=some ds)(h0:0<=v)(b:v<ds.length)(h:lH Q ds):∃ds i d,wA x=some ds/\PyData.int v=.int i/\atI ds i=some d/\Q d:=by
 obtain⟨d,hd,e⟩:=zt4 h0 b;exact⟨ds,v,d,a,rfl,e,h.mem d hd⟩
theorem aN {x:PyData}{ds:List PyData}{v:Int}{Q:PyData->Prop}(P:PyData->Prop)(a:wA x=some ds)(h0:0<=v)(b:v<ds.length)(h:lH P ds)(k:∀d,P d->Q d):∃ds i d,wA x=some ds/\PyData.int v=.int i/\atI ds i=some d/\Q d:=by
 obtain⟨d,hd,e⟩:=zt4 h0 b;exact⟨ds,v,d,a,rfl,e,k d (h.mem d hd)⟩
theorem tu {k:Bool}{p q:Prop}(b:k=true->p)(a:k=false->q):if k=true then p else q:=by
 cases k with
 |true=>exact b rfl
 |false=>exact a rfl
theorem uk {i j:Int}:PyData.eqv (.int i) (.int j)=decide (i=j):=by
 show(i == j)=_;by_cases h:i=j<;>simp[h]
section
variable {X:Cx}{α:Ev}{e a b:Expr}{pos p:Pos}{E:yp}{rest:List Stmt}
def EvR (X:Cx)(α:Ev)(e:Expr)(Q:PyData->Prop):Prop:=∀(F:Fr) (σ:St) (H:Hp) (R:VK),M F α σ H->(∀d v H',Q d->zD F H'->Kz F H H'->AV (sub (λx=>¬F.O0 x/\∀xs,F.H0 x≠some (.lst xs)) H') v d->R v H')->uF X e σ H R
theorem ko {Q:PyData->Prop}(h:EvD X α e λd=>noL d=true/\Q d):EvR X α e Q:=λF σ H R m k=>h F σ H R m λd v H' q t kz r=>k d v H' q.2 t kz (r.noL (λx o g z=>by
 obtain⟨c,f⟩:=zb z;refine zu ⟨ow0 c,λxs w=>?_⟩ f;have:=kz _ _ (m.keep _ _ w (m.tp.nt (ow0 c))) (m.tp.nt (ow0 c));rw[f]at this;cases this;exact g trivial) q.1)
theorem oq {Q:PyData->Prop}(h:EvL X α e λds=>xQ ds=true/\Q (.list ds)):EvR X α e Q:=λF σ H R m k=>h F σ H R m λds v H' q t kz r=>by
 obtain⟨l,xs,rfl,d,j,i⟩:=r;refine k _ _ H' q.2 t kz (.lst (zu ⟨ow0 (m.fresh d),λxs w=>by rw[m.fresh0 d]at w;cases w⟩ j) (i.noL (λx o g z=>?_) q.1));obtain⟨c,f⟩:=zb z;refine zu ⟨ow0 c.1,λxs w=>?_⟩ f;have:=kz _ _ (m.keep _ _ w (m.tp.nt (ow0 c.1))) (m.tp.nt (ow0 c.1));rw[f]at this;cases this;exact g trivial
def zo8 (X:Cx)(α:Ev)(c:List Expr)(Q:List PyData->Prop):Prop:=∀(F:Fr) (σ:St) (H:Hp) (R:List V->Hp->Prop),M F α σ H->(∀ds vs H',Q ds->zD F H'->Kz F H H'->AVs (sub (λx=>¬F.O0 x/\∀xs,F.H0 x≠some (.lst xs)) H') vs ds->R vs H')->zF0 X c σ H R
theorem jZ {Q:List PyData->Prop}(q:Q []):zo8 X α [] Q:=λF σ H R m k=>⟨_,zF,k _ _ H q m.tp Kz.refl .nil⟩
theorem wy {c:List Expr}{Q:List PyData->Prop}(h:EvR X α e λd=>zo8 X α c λds=>Q (d::ds))(n:starEach (e::c) X.env=(false,eval e X.env)::starEach c X.env:=by rfl):zo8 X α (e::c) Q:=λF σ H R m k=>by
 refine⟨_,zp zg yv n,?_⟩;refine h F σ H _ m λd v H1 g t1 k1 i=>?_;have m1:=m.kz k1 t1;exact g F σ H1 _ m1 λas vs l f t2 k2 j=>k _ _ l f t2 (k1.trans k2) (.cons (i.same (zm λx o z w=>⟨z,k2 _ _ w (m.tp.nt z.1)⟩)) j)
theorem cJ {n:Nat}{g:List Expr}{Q:PyData->Prop}(h:zo8 X α g λds=>ds.length<=1000/\Q (.tuple ds)):EvR X α (.Tuple g n pos) Q:=λF σ H R m k=>by
 refine⟨_,kP yv,?_⟩;refine h F σ H _ m λds vs H1 d t1 k1 f=>?_;have m1:=m.kz k1 t1;refine⟨by rw[f.length];exact z36 (ye d.1),λp c=>?_⟩;exact k _ _ _ d.2 (t1.same (zW c)) (k1.trans (Kz.of_same (zW c))) (.tup (zu ⟨ow0 (m1.fresh c),λxs w=>by rw[m1.fresh0 c]at w;cases w⟩ zf) (f.same (zm λx o z w=>⟨z,by rw[zc (zh w c)];exact w⟩)))
theorem jT (h:EvR X α e λd=>∀S,E.rt (.deep d S)):SvS X α (.Return (some e) pos::rest) E:=λF σ H D m r=>by
 refine⟨_,zy (ub zg) zE,?_⟩;refine h F σ H _ m λd v H1 g t1 k1 i=>?_;have m1:=m.kz k1 t1;refine r.rt (.deep d λy=>¬F.O0 y/\F.H0 y=none/\∃xs,H1 y=some (.lst xs)) _ _ ⟨t1,m.keep.trans k1,?_,?_⟩ (g _)
 ·refine i.same λy o z=>?_;obtain⟨f,c⟩:=zb z;unfold uM;by_cases w:¬F.O0 y/\F.H0 y=none/\∃xs,H1 y=some (.lst xs)
  ·rw[if_pos w];exact c
  ·rw[if_neg w,zu (p:=λx=>¬F.O0 x) f.1 c];cases o with
   |lst xs=>
    exfalso
    cases q:F.H0 y with
    |none=>exact w ⟨f.1,q,xs,c⟩
    |some o'=>
     have:=m1.keep y o' q (m.tp.nt f.1);rw[c]at this;cases this;exact f.2 xs q
   |_=>rfl
 ·exact λx z=>z
end
def zT0 :R2:=λx y H R=>rEq x y H R\/zP3 x y H R
def zQ7 :R2:=λx y H R=>rNe x y H R\/zO7 x y H R
theorem bx {X:Cx}(c:X.A.units+64<cLine):OpR X (compareOp .Eq) zT0:=λpins s σ H x y v u Q I b a h=>h.elim (λh=>ai _ _ _ _ _ _ _ _ _ I b a h) λh=>zI3 c _ _ _ _ _ _ _ _ _ I b a h
theorem za3 {X:Cx}(c:X.A.units+64<cLine):OpR X (compareOp .NotEq) zQ7:=λpins s σ H x y v u Q I b a h=>h.elim (λh=>zO4 _ _ _ _ _ _ _ _ _ I b a h) λh=>zA3 c _ _ _ _ _ _ _ _ _ I b a h
theorem zj4 {i j:Str}:Cmp rNe (.str i) (.str j) (!decide (i=j)):=λp H c d R b a h=>by
 cases b.str_inv;cases a.str_inv;refine⟨rfl,?_⟩;rw[show decide (V.str i=V.str j)=decide (i=j) by simp];exact h
def oE (x y:PyData)(Q:Bool->Prop):Prop:=∃k,Cmp zT0 x y k/\Cmp zQ7 x y (!k)/\Q k
theorem zm3 {i j:Int}{Q:Bool->Prop}(h:Q (decide (i=j))):oE (.int i) (.int j) Q:=⟨_,λp H b c R d a z=>.inl (zn2 p H b c R d a z),λp H b c R d a z=>.inl (zr7 p H b c R d a z),h⟩
theorem zn6 {i j:Str}{Q:Bool->Prop}(h:Q (decide (i=j))):oE (.str i) (.str j) Q:=⟨_,λp H b c R d a z=>.inl (jX p H b c R d a z),λp H b c R d a z=>.inl (zj4 p H b c R d a z),h⟩
theorem eqk {x y:PyData}{Q:Bool->Prop}(s1:SeqAt.shaped x=true)(s2:SeqAt.shaped y=true)(c:x.hasDict=false)(d:y.hasDict=false)(h:Q (PyData.eqv x y)):oE x y Q:=
 ⟨_,λp H e f R b a z=>.inr ⟨x,y,(b.dv c).same yz,(a.dv d).same yz,s1,s2,z⟩,λp H e f R b a z=>.inr ⟨x,y,(b.dv c).same yz,(a.dv d).same yz,s1,s2,z⟩,h⟩
theorem cp {i j:Bool}{Q:Bool->Prop}(h:Q (i == j)):oE (.bool i) (.bool j) Q:=eqk rfl rfl rfl rfl (by simpa[PyData.eqv]using h)
section
variable {X:Cx}{α:Ev}{a b:Expr}{pos:Pos}{Q:PyData->Prop}{T:Bool->Prop}
theorem zF2 (d:X.A.units+64<cLine)(h:EvD X α a λx=>EvD X α b λy=>oE x y λk=>Q (.bool k)):EvD X α (.Compare a [.Eq] [b] pos) Q:=oA (bx d) (yt _) (h.imp λx h=>h.imp λy c=>by obtain⟨k,e,_,q⟩:=c;exact⟨k,e,q⟩)
theorem zG2 (d:X.A.units+64<cLine)(h:EvD X α a λx=>EvD X α b λy=>oE x y λk=>Q (.bool (!k))):EvD X α (.Compare a [.NotEq] [b] pos) Q:=oA (za3 d) (yt _) (h.imp λx h=>h.imp λy c=>by obtain⟨k,_,e,q⟩:=c;exact⟨!k,e,q⟩)
theorem zF3 (d:X.A.units+64<cLine)(h:EvD X α a λx=>EvD X α b λy=>oE x y T):EvT X α (.Compare a [.Eq] [b] pos) T:=xU (bx d) (yt _) (h.imp λx h=>h.imp λy c=>by obtain⟨k,e,_,q⟩:=c;exact⟨k,e,q⟩)
theorem zJ4 (d:X.A.units+64<cLine)(h:EvD X α a λx=>EvD X α b λy=>oE x y λk=>T (!k)):EvT X α (.Compare a [.NotEq] [b] pos) T:=xU (za3 d) (yt _) (h.imp λx h=>h.imp λy c=>by obtain⟨k,_,e,q⟩:=c;exact⟨!k,e,q⟩)
theorem zs6 {k:Bool}{p q:Prop}(e:k=true)(h:p):if k=true then p else q:=by rw[if_pos e];exact h
theorem zS1 {k:Bool}{p q:Prop}(e:k=false)(h:q):if k=true then p else q:=by rw[if_neg (by rw[e];decide)];exact h
variable {E:yp}{s t:List Stmt}
theorem uE {k:Bool}(e:k=true)(h:SvS X α s E):SvS X α (if k=true then s else t) E:=by rw[if_pos e];exact h
theorem uB {k:Bool}(e:k=false)(h:SvS X α t E):SvS X α (if k=true then s else t) E:=by rw[if_neg (by rw[e];decide)];exact h
end
section
variable {X:Cx}{α:Ev}{a b:Expr}{pos:Pos}{Q:PyData->Prop}{T:Bool->Prop}
def zM4 :R2:=λx y H Q=>∃a v,x=.ref a/\mV H a y (some v)/\Q v H
theorem zk1 (d:X.A.units+1<cLine):IxR X zM4:=λvalue slice pins s σ H x y v u Q I e c h j=>by
 obtain⟨a,z,rfl,g,q⟩:=h;cases e;exact tail_any (nq I g) yd9.lookup (fw d I g c λk s' f i=>⟨z,H,f,i,q⟩) j
def ju (x y:PyData)(Q:PyData->Prop):Prop:=(∃ds i d,wA x=some ds/\y=.int i/\atI ds i=some d/\Q d)\/∃ds k d,x=yS ds/\y=yZ k/\uw ds k=some d/\Q d
theorem ixk {x y:PyData}{ds:List PyData}{i:Int}{d:PyData}(e:wA x=some ds)(c:y=.int i)(f:atI ds i=some d)(h:Q d):ju x y Q:=.inl ⟨ds,i,d,e,c,f,h⟩
theorem zS6 {d:PyData}{r:List PyData}(h:Q d):ju (.tuple (d::r)) (.int 0) Q:=ixk rfl rfl (vv (j:=0) rfl) h
theorem uu {ds:List (PyData×PyData)}{k:Key}{d y:PyData}(c:y=yZ k)(e:uw ds k=some d)(h:Q d):ju (yS ds) y Q:=.inr ⟨ds,k,d,rfl,c,e,h⟩
theorem tS {x:PyData}{ds:List PyData}{v:Int}(c:wA x=some ds)(h0:0<=v)(d:v<ds.length)(h:lH Q ds):ju x (.int v) Q:=.inl (zk5 c h0 d h)
theorem dQ {x:PyData}{ds:List PyData}{v:Int}(P:PyData->Prop)(c:wA x=some ds)(h0:0<=v)(e:v<ds.length)(h:lH P ds)(k:∀d,P d->Q d):ju x (.int v) Q:=.inl (aN P c h0 e h k)
theorem aM (q:X.A.units+1<cLine)(t:oG b)(h:EvD X α a λx=>EvD X α b λy=>ju x y Q):EvD X α (.Subscript a b pos) Q:=by
 refine sU (f:=tOp (λx y H Q=>rIx X.K x y H Q\/zM4 x y H Q)) (yy (zz9.or (zk1 q)) zg zg t) (λ_ _ _=>Iff.rfl) (h.imp λx h=>h.imp λy h=>?_);intro F σ H w u R m l n k;rcases h with⟨ds,i,d,e1,rfl,c,hq⟩|⟨ds,p,d,rfl,rfl,e,hq⟩
 ·cases n.int_inv;cases x with
  |list ds'=>
   cases e1;obtain⟨a,xs,rfl,g,j⟩:=l.lst_inv;obtain⟨v,e,av⟩:=j.atI c;exact .inl (.inl ⟨a,xs,i,v,rfl,rfl,SqL.of (zb g).2,e,k d v H hq m.tp Kz.refl av⟩)
  |tuple ds'=>
   cases e1;obtain⟨a,xs,rfl,g,j⟩:=l.tup_inv;obtain⟨v,e,av⟩:=j.atI c;exact .inl (.inr (.inl ⟨a,xs,i,v,rfl,rfl,SqT.of (zb g).2,e,k d v H hq m.tp Kz.refl av⟩))
  |_=>cases e1
 ·obtain⟨a,o,kvs,rfl,g1,g2⟩:=l.dk_inv;obtain⟨v,s,r⟩:=g2.get e;cases uG n;exact .inr ⟨a,v,rfl,.inl ⟨kvs,p,.inr ⟨o,(zb g1).2⟩,rfl,s.symm⟩,k d v H hq m.tp Kz.refl r⟩
def zi3 (K:PySem.W.Frag)(neg:Bool):R2:=λx y H Q=>rIn K neg x y H Q\/∃a o,y=.ref a/\mV H a x o/\Q (.bl (if neg then !o.isSome else o.isSome)) H
theorem dn (e:X.A.units+1<cLine):OpR X (compareOp .In) (zi3 X.K false):=λpins s σ H x y v u Q I d c h=>by
 rcases h with h|⟨a,o,rfl,g,q⟩
 ·exact gP pins s σ H x y v u Q I d c h
 ·cases c;exact zU9 e I g d λs' f=>⟨.bl o.isSome,H,f,rfl,q⟩
theorem pf (e:X.A.units+1<cLine):OpR X (compareOp .NotIn) (zi3 X.K true):=λpins s σ H x y v u Q I d c h=>by
 rcases h with h|⟨a,o,rfl,g,q⟩
 ·exact oz pins s σ H x y v u Q I d c h
 ·cases c;exact zr0 e I g d λs' f=>⟨.bl (!o.isSome),H,f,rfl,q⟩
def og (X:Cx)(x y:PyData)(Q:Bool->Prop):Prop:=∃k,Cmp (zi3 X.K false) x y k/\Cmp (zi3 X.K true) x y (!k)/\Q k
theorem ink {x:PyData}{ds:List PyData}(f1:sR x=true)(f2:ds.all sR=true)(q:T (inD x ds)):og X x (.list ds) T:=
 ⟨_,λp H d e R f c h=>.inl (dh (X:=X) (neg:=false) f1 f2 p H d e R f c h),λp H d e R f c h=>.inl (dh (X:=X) (neg:=true) f1 f2 p H d e R f c h),q⟩
theorem lu {x:PyData}{ds:List (PyData×PyData)}{k:Key}(e:x=yZ k)(q:T (uw ds k).isSome):og X x (yS ds) T:=by
 subst e;have key:∀(p:Addr->Prop) (H:Hp) (c d:V),AV (sub p H) c (yZ k)->AV (sub p H) d (yS ds)->∃a o,d=.ref a/\mV H a c o/\o.isSome=(uw ds k).isSome:=λp H c d g f=>by
  obtain⟨a,o,kvs,rfl,g1,g2⟩:=f.dk_inv;cases uG g;exact⟨a,_,rfl,.inl ⟨kvs,k,.inr ⟨o,(zb g1).2⟩,rfl,rfl⟩,g2.some_iff k⟩
 refine⟨_,λp H c d R g f h=>?_,λp H c d R g f h=>?_,q⟩
 ·obtain⟨a,o,e1,j,i⟩:=key p H c d g f;exact .inr ⟨a,o,e1,j,by rw[if_neg (by decide),i];exact h⟩
 ·obtain⟨a,o,e1,j,i⟩:=key p H c d g f;exact .inr ⟨a,o,e1,j,by rw[if_pos rfl,i];exact h⟩
theorem zF5 (d:X.A.units+1<cLine)(h:EvD X α a λx=>EvD X α b λy=>og X x y T)(hm:behindInMarks .In b=false:=by rfl):EvT X α (.Compare a [.In] [b] pos) T:=
 xU (dn d) hm (h.imp λx h=>h.imp λy c=>by obtain⟨k,e,_,q⟩:=c;exact⟨k,e,q⟩)
theorem zg7 (d:X.A.units+1<cLine)(h:EvD X α a λx=>EvD X α b λy=>og X x y λk=>T (!k))(hm:behindInMarks .NotIn b=false:=by rfl):EvT X α (.Compare a [.NotIn] [b] pos) T:=
 xU (pf d) hm (h.imp λx h=>h.imp λy c=>by obtain⟨k,_,e,q⟩:=c;exact⟨!k,e,q⟩)
theorem zA9 (d:X.A.units+1<cLine)(h:EvD X α a λx=>EvD X α b λy=>og X x y λk=>Q (.bool k))(hm:behindInMarks .In b=false:=by rfl):EvD X α (.Compare a [.In] [b] pos) Q:=
 oA (dn d) hm (h.imp λx h=>h.imp λy c=>by obtain⟨k,e,_,q⟩:=c;exact⟨k,e,q⟩)
theorem zh1 (d:X.A.units+1<cLine)(h:EvD X α a λx=>EvD X α b λy=>og X x y λk=>Q (.bool (!k)))(hm:behindInMarks .NotIn b=false:=by rfl):EvD X α (.Compare a [.NotIn] [b] pos) Q:=
 oA (pf d) hm (h.imp λx h=>h.imp λy c=>by obtain⟨k,_,e,q⟩:=c;exact⟨!k,e,q⟩)
end
theorem zG.few {k:Nat}{A:Around}(h:zG k A):A.units+70<cLine:=by have:=h.un;lia
theorem zG.one {k:Nat}{A:Around}(h:zG k A):A.units+1<cLine:=by have:=h.units;exact zV5 this
section
variable {X:Cx}{α:Ev}{E:yp}{rest body:List Stmt}{e c tg iter:Expr}{pos p:Pos}
theorem zX (pat:Pat)(h:EvI X α tg iter λds=>tH X pat body rest E ds α)(f:X.N.Nodup:=by assumption)(b:PassesOwn (model X.prog X.w) X.A X.env X.xe:=by exact yh8)(a:X.calm=true:=by rfl)
  (hg:PG X tg (ng X.K pat):=by first|exact yc (by assumption) rfl (Or.inl rfl)|exact yc (by assumption) rfl (Or.inr rfl)|exact ve rfl rfl (by repeat (first|exact uy|refine wu (by first|exact yc (by assumption) rfl (Or.inl rfl)|exact yc (by assumption) rfl (Or.inr rfl)) ?_)))
  (d:∀x,foldedSetIterable iter X.env x=pure x:=by intro _;rfl):SvS X α (.For tg iter body [] pos::rest) E:=ze7 b a hg h d
def freeOk (xs:Scope)(y:Str×NameKind):Bool:=match y.2 with
 |.free=>match xs.names.lookup y.1 with
  |some .cell=>true
  |some .free=>true
  |_=>false
 |_=>true
theorem sF {xs scope:Scope}(h:scope.names.all (freeOk xs)=true):∀y∈scope.names,y.2=.free->xs.names.lookup y.1=some .cell\/xs.names.lookup y.1=some .free:=λy hy e=>by
 have:=ya8.mp h y hy;unfold freeOk at this;rw[e]at this;cases z:xs.names.lookup y.1 with
 |none=>rw[z]at this;cases this
 |some k=>
  rw[z]at this;cases k<;>first|exact .inl rfl|exact .inr rfl|cases this
theorem yN (N:List Str)(imp:List (Option Nat))(pat:Pat){scope:Scope}{elt:Expr}{ifs:List Expr}{Q:List PyData->Prop}(h:EvI X α tg iter λds=>ds.length<=1000/\xf (λC s2 b fp=>X.comp N scope C s2 b fp) pat ifs elt (yA imp α) ds [] Q)
  (nd:N.Nodup:=by decide +kernel) (k:scope.kind=.function:=by rfl) (f:∀y∈scope.names,y.2≠.cell:=by decide +kernel) (m:∀y∈scope.names,y.2=.local->scope.names.lookup y.1=some .local:=by decide +kernel) (l:scope.names.all (freeOk X.env.scope)=true:=by rfl) (i:imp.length=N.length:=by rfl)
  (n:((imp.zip N).all λp=>match p.1 with|none=>true|some j=>X.N[j]? == some p.2&&scope.names.lookup p.2 == some .free)=true:=by rfl) (a:pat.free (yA imp α)=true:=by rfl)
  (hg:∀C s2 b fp,N.Nodup->PG (X.comp N scope C s2 b fp) tg (ng X.K pat):=by intro _ _ _ _ d;first|exact yc d rfl (Or.inl rfl)|exact ve rfl rfl (by repeat (first|exact uy|refine wu (yc d rfl (Or.inl rfl)) ?_)))
  (g:X.calm=true:=by rfl) (o:∀x,foldedSetIterable iter X.env x=pure x:=by intro _;rfl):EvL X α (.ListComp elt [⟨tg,iter,ifs,0⟩] scope pos) Q:=zw8 g ⟨k,nd,f,m,sF l,i,n⟩ a (λC s2 b fp=>hg C s2 b fp nd) h o
theorem ji (i:Nat)(N:List Str)(imp:List (Option Nat))(pat:Pat){x:Str}{pos' a:Pos}{scope:Scope}{elt:Expr}{ifs:List Expr}(h:EvI X α tg iter λds=>ds.length<=1000/\xf (λC s2 d fp=>X.comp N scope C s2 d fp) pat ifs elt (yA imp α) ds [] λds=>SvS X (α.set i (some (.own ds))) rest E)
  (n:X.N.Nodup:=by assumption)
  (nd:N.Nodup:=by decide +kernel) (l:scope.kind=.function:=by rfl) (o:∀y∈scope.names,y.2≠.cell:=by decide +kernel) (t:∀y∈scope.names,y.2=.local->scope.names.lookup y.1=some .local:=by decide +kernel) (s:scope.names.all (freeOk X.env.scope)=true:=by rfl) (k:imp.length=N.length:=by rfl)
  (m:((imp.zip N).all λp=>match p.1 with|none=>true|some j=>X.N[j]? == some p.2&&scope.names.lookup p.2 == some .free)=true:=by rfl) (b:pat.free (yA imp α)=true:=by rfl)
  (hg:∀C s2 d fp,N.Nodup->PG (X.comp N scope C s2 d fp) tg (ng X.K pat):=by intro _ _ _ _ f;first|exact yc f rfl (Or.inl rfl)|exact ve rfl rfl (by repeat (first|exact uy|refine wu (yc f rfl (Or.inl rfl)) ?_)))
  (q:X.calm=true:=by rfl)
  (hi:X.N[i]?=some x:=by rfl) (r:Loc X.env.scope x:=by first|exact Or.inl rfl|exact Or.inr rfl) (g:swapsWith (.ListComp elt [⟨tg,iter,ifs,0⟩] scope a) (some (.Name x pos')) pos.line X.env=pure true:=by rfl)
  (hf:X.fn x=true\/X.env.scope.names.lookup x=some .local:=by first|exact .inl rfl|exact .inr rfl|assumption) (u:∀x,foldedSetIterable iter X.env x=pure x:=by intro _;rfl):
  SvS X α (.Assign [.Name x pos'] (.ListComp elt [⟨tg,iter,ifs,0⟩] scope a) pos::rest) E:=zv5 i n q ⟨l,nd,o,t,sF s,k,m⟩ b (λC s2 d fp=>hg C s2 d fp nd) h hi r g hf u
end
section
variable {Y:Addr->Shared->Hp->List Addr->Cx}{pat:Pat}{ifs:List Expr}{elt:Expr}{α0:Ev}{ι:Type}{g f:ι->PyData}{l:List ι}{acc:List PyData}{Q:List PyData->Prop}
theorem yE (p:ι->Bool)(f:ι->PyData)(h:∀x∈l,∃a,pat.bind (g x) α0=some a/\(∀C s2 b fp (Q:Bool->Prop),Q (p x)->fP (Y C s2 b fp) a ifs Q)/\(p x=true->∀C s2 b fp (Q:PyData->Prop),Q (f x)->EvD (Y C s2 b fp) a elt Q))
  (hd:Q (acc++(l.filter p).map f)):xf Y pat ifs elt α0 (l.map g) acc Q:=by
 induction l generalizing acc with
 |nil=>
  show Q acc;simpa using hd
 |cons d ds k=>
  obtain⟨a,e,j,i⟩:=h d zY9;refine⟨a,e,λC s2 b fp=>j C s2 b fp _ ?_⟩;have c:=λacc=>k (acc:=acc) λd hd=>h d (zY6 _ hd);cases hp:p d with
  |true=>
   rw[if_pos rfl];refine λC s2 b fp=>i hp C s2 b fp _ (c _ ?_);simpa[ya9,hp]using hd
  |false=>
   rw[if_neg (by decide)];refine c _ ?_;simpa[ya9,hp]using hd
theorem yu (f:ι->PyData)(h:∀x∈l,∃a,pat.bind (g x) α0=some a/\∀C s2 c fp (Q:PyData->Prop),Q (f x)->EvD (Y C s2 c fp) a elt Q)(hd:Q (acc++l.map f)):xf Y pat [] elt α0 (l.map g) acc Q:=
 yE (λ_=>true) f (λx d=>by
  obtain⟨a,e,b⟩:=h x d;exact⟨a,e,λ_ _ _ _ _ k=>aQ k,λ_=>b⟩) (by rw[List.filter_eq_self.mpr λ_ _=>rfl];exact hd)
end
abbrev Part :=Int×Int×Nat
abbrev Way :=Int×Int×Option Part
section
variable {co:Co}{N:Nat}
def ltQ (x y:Part):Bool:=decide (x.1<y.1)||(decide (x.1=y.1)&&(decide (x.2.1<y.2.1)||(decide (x.2.1=y.2.1)&&decide (x.2.2<y.2.2))))
def ltP (x y:Int×Part):Bool:=decide (x.1<y.1)||(decide (x.1=y.1)&&ltQ x.2 y.2)
def zC2 :List (Int×Part)->Int×Part
 |[]=>(0,0,0,0)
 |d::ds=>ds.foldl (λb x=>if ltP x b=true then x else b) d
theorem zT2 {x y:Int×Part}(h:ltP x y=true):x.1<=y.1:=by
 unfold ltP at h;simp only[yb4,z21,z44]at h
 lia
theorem zQ4 {x y:Int×Part}(h:¬ltP x y=true):y.1<=x.1:=by
 unfold ltP at h;simp only[yb4,z21,z44,not_or]at h;exact Int.not_lt.1 h.1
theorem zy9 :∀(ds:List (Int×Part)) (d:Int×Part),(ds.foldl (λb x=>if ltP x b=true then x else b) d=d\/ds.foldl (λb x=>if ltP x b=true then x else b) d∈ds)/\(ds.foldl (λb x=>if ltP x b=true then x else b) d).1<=d.1/\∀x∈ds,(ds.foldl (λb x=>if ltP x b=true then x else b) d).1<=x.1
 |[],d=>⟨.inl rfl,ya6 _,λx a=>by simp at a⟩
 |y::ds,d=>by
  rw[List.foldl_cons];obtain⟨f,c,g⟩:=zy9 ds (if ltP y d=true then y else d);by_cases h:ltP y d=true
  ·rw[if_pos h]at f c g ⊢;have:=zT2 h;refine⟨.inr ?_,(Int.le_trans c this),λx a=>?_⟩
   ·rcases f with e|e
    ·rw[e];exact zY9
    ·exact zY6 _ e
   ·rcases zY4.mp a with rfl|a
    ·exact c
    ·exact g x a
  ·rw[if_neg h]at f c g ⊢;have:=zQ4 h;refine⟨f.imp id λe=>zY6 _ e,c,λx a=>?_⟩;rcases zY4.mp a with rfl|a
   ·exact Int.le_trans c this
   ·exact g x a
theorem dA {ds:List (Int×Part)}(h:ds≠[]):zC2 ds∈ds:=by
 cases ds with
 |nil=>exact absurd rfl h
 |cons d ds=>
  rcases(zy9 ds d).1 with e|e
  ·show List.foldl _ d ds∈_;rw[e];exact zY9
  ·exact zY6 _ e
def yD (W:List Way)(d:Int):Option (Int×Option Part):=(W.find? λw=>decide (w.1=d)).map (·.2)
theorem find_some {W:List Way}{d:Int}{x:Int}{l:Option Part}(h:yD W d=some (x,l)):(d,x,l)∈W:=by
 unfold yD at h;obtain⟨w,hw,e⟩:=zZ6.mp h;have a:=yh9 hw;rw[z44]at a;have b:=ya5 hw;rw[show(d,x,l)=w by rw[<-a,<-e]];exact b
def bM (W:List Way):List Int:=W.map (·.2.1)
def oU (W:List Way)(hi:Int)(d:Int):Int:=match yD W d with
 |some (x,_)=>x
 |none=>hi
end
theorem fQ (ds:List PyData){a:Int}(h:0<=a):cutD ds (some a) none=ds.drop a.toNat:=by
 obtain⟨n,rfl⟩:=z92 h;unfold cutD;rw[HT.jK,HT.sq,yf7];rcases Nat.le_total n ds.length with z|z
 ·rw[Nat.min_eq_left z,yg1 (by rw[yg5];exact zY1 _)]
 ·rw[Nat.min_eq_right z,List.drop_eq_nil_of_le (zY1 _),List.drop_eq_nil_of_le z,List.take_nil]
theorem zi9 (ds:List PyData){a:Int}(h:0<=a):cutD ds none (some a)=ds.take a.toNat:=by
 obtain⟨n,rfl⟩:=z92 h;unfold cutD;rw[HT.jK,HT.sq,yf7,List.drop_zero,Nat.sub_zero];rcases Nat.le_total n ds.length with z|z
 ·rw[Nat.min_eq_left z]
 ·rw[Nat.min_eq_right z,yg1 (zY1 _),yg1 z]
theorem ze4 (ds:List PyData):cutD ds none (some (-1))=ds.take (ds.length-1):=by
 unfold cutD;rw[HT.sq];have:HT.sIx ds.length ds.length (some (-1))=ds.length-1:=by
  show(if(-1:Int)<0 then((-1:Int)+(ds.length:Int)).toNat else min (-1:Int).toNat ds.length)=_;rw[if_pos (by decide)]
  lia
 rw[this,List.drop_zero,Nat.sub_zero]
theorem zb8 (f:Int->Int)(c:Int)(n:Nat):aa (cutD (((zx c (n+1)).map f).map PyData.int) none (some (-1))) (cutD (((zx c (n+1)).map f).map PyData.int) (some 1) none)=(zx c n).map λd=>.tuple [.int (f d),.int (f (d+1))]:=by
 rw[ze4,fQ _ (by decide)];unfold aa;refine List.ext_getElem? λj=>?_;rw[List.getElem?_zipWith];simp only[zX7,zk,List.getElem?_take,List.getElem?_drop,zZ1];by_cases h:j<n
 ·rw[if_pos (by omega),yo (by lia),yo h,show(1:Int).toNat+j=j+1 from by rw[Nat.add_comm];rfl,yo (by lia)];show some _=some _;rw[show c+((j+1:Nat):Int)=c+(j:Nat)+1 by omega]
 ·rw[if_neg (by omega),yc2 (l:=zx c n) (by rw[zk];exact z86 h)];rfl
section
variable {co:Co}{N:Nat}
def zL7 (W:List Way):Int:=sV (bM W)
def hW (W:List Way)(d:Int):Int:=oU W (zL7 W) d
theorem zk2 {W:List Way}{d x:Int}{l:Option Part}(h:yD W d=some (x,l)):hW W d=x:=by unfold hW oU;rw[h]
theorem zl1 {W:List Way}{d:Int}(h:yD W d=none):hW W d=zL7 W:=by unfold hW oU;rw[h]
def wK (p:Part):PyData:=.tuple [.int p.1,.int p.2.1,.int p.2.2]
def bU :Option Part->PyData
 |none=>.none
 |some p=>wK p
def tM (w:Way):PyData×PyData:=(.int w.1,.tuple [.int w.2.1,bU w.2.2])
def ue (p:Int×Part):PyData:=.tuple [.int p.1,wK p.2]
theorem yY (d:Int):∀W:List Way,uw (W.map tM) (.inl d)=(yD W d).map λp=>.tuple [.int p.1,bU p.2]
 |[]=>rfl
 |w::W=>by
  rw[z03];unfold tM;rw[uw];unfold yD;rw[z60];show(if decide (w.1=d)=true then _ else _)=_;by_cases h:w.1=d
  ·rw[z28 h,if_pos rfl];rfl
  ·rw[z06 h,if_neg (by decide)];exact yY d W
theorem df {W:List Way}{d x:Int}{l:Option Part}(h:yD W d=none):putD (W.map tM) (.inl d) (.tuple [.int x,bU l])=(W++[(d,x,l)]).map tM:=by
 unfold putD;rw[yY,h,Option.map_none,if_neg (by decide),z39];rfl
theorem cE (p q:Part):PyData.eqv (wK p) (wK q)=decide (p=q):=by
 obtain⟨a,b,n⟩:=p;obtain⟨d,c,e⟩:=q;have:PyData.eqv (wK (a,b,n)) (wK (d,c,e))=(decide (a=d)&&(decide (b=c)&&(decide ((n:Int)=e)&&true))):=by
  rw[<-uk,<-uk,<-uk];rfl
 rw[this];by_cases h:a=d<;>by_cases f:b=c<;>by_cases g:n=e<;>simp[h,f,g]<;>lia
theorem zp3 (p q:Part):ltD (wK p) (wK q)=some (ltQ p q):=by
 obtain⟨a,b,n⟩:=p;obtain⟨i,g,c⟩:=q;unfold wK ltD;simp only[lY,uk,ltQ];by_cases f:a=i
 ·subst f;by_cases d:b=g
  ·subst d;by_cases e:(n:Int)=c
   ·have:n=c:=(zX2 e);subst this;simp
   ·simp only[decide_true,yb2,z06 e,z27,z73,ltD,Int.lt_irrefl,decide_false,yi7,yg3];rw[show decide ((n:Int)<c)=decide (n<c) by by_cases h:n<c<;>simp[h]]
  ·simp only[decide_true,yb2,z06 d,z27,z73,ltD,Int.lt_irrefl,decide_false,yi7,yg3,yb8,yd2]
 ·simp only[z06 f,z27,z73,ltD,yb8,yd2]
theorem cZ (p q:Int×Part):ltD (ue p) (ue q)=some (ltP p q):=by
 obtain⟨z,p⟩:=p;obtain⟨y,q⟩:=q;unfold ue ltD;simp only[lY,uk,ltP,cE];by_cases b:z=y
 ·subst b;by_cases a:p=q
  ·subst a;simp[ltQ]
  ·simp only[decide_true,yb2,z06 a,z27,z73,zp3,Int.lt_irrefl,decide_false,yi7,yg3]
 ·simp only[z06 b,z27,z73,ltD,yb8,yd2]
theorem zm6 :∀{ds:List (Int×Part)},ds≠[]->minD (ds.map ue)=ue (zC2 ds)
 |[],h=>absurd rfl h
 |d::ds,_=>by
  show List.foldl _ (ue d) (ds.map ue)=ue (List.foldl _ d ds);rename_i a;clear a
  induction ds generalizing d with
  |nil=>rfl
  |cons x ds b=>
   rw[z03,List.foldl_cons,List.foldl_cons,cZ];show List.foldl _ (if ltP x d=true then ue x else ue d) _=_;rw[<-b];split<;>rfl
theorem bC (ds:List (Int×Part)):zI7 (ds.map ue):=λx a y hy=>by
 obtain⟨p,_,rfl⟩:=z74.mp a;obtain⟨q,_,rfl⟩:=z74.mp hy;rw[cZ];rfl
end
section
variable {X:Cx}{α:Ev}{a b e:Expr}{pos p:Pos}{Q:PyData->Prop}
end
section
variable {X:Cx}{α:Ev}{a b c e:Expr}{pos p:Pos}{Q:PyData->Prop}{T:Bool->Prop}
theorem bh (h:EvD X α a λx=>EvD X α b λy=>∃i j,x=.int i/\y=.int j/\(if decide (i<=j)=true then EvD X α c λz=>∃k,z=.int k/\Q (.bool (decide (j<=k)))else Q (.bool false)))(hm:lastMarks [.LtE,.LtE] [b,c]=false:=by rfl):EvD X α (.Compare a [.LtE,.LtE] [b,c] pos) Q:=aj zb0 zb0 hm h
end
section
variable {X:Cx}{α:Ev}{a b c e:Expr}{pos p p2 pos2:Pos}{Q:PyData->Prop}{T:Bool->Prop}
end
section
variable {X:Cx}{α:Ev}{a b c d e:Expr}{pos p:Pos}{ta tb tc td:TE}{T:Bool->Prop}
end
section
variable {X:Cx}{α:Ev}{a b c d e:Expr}{pos p:Pos}{T:Bool->Prop}
end
abbrev lR (X:Cx)(P:Program)(w:World)(K:PySem.W.Frag)(mg:Str->Option Value)(base:Heap):Prop:=X.prog=P/\X.w=w/\X.K=K/\X.mg=mg/\X.base=base
section
variable {X:Cx}{α:Ev}{e o:Expr}{es:List Expr}{pos p apos:Pos}{Q:PyData->Prop}{k:Nat}{φ:List A->(A->Prop)->Prop}{x m:Str}{C:Addr}{pl:Sem Bool}{P:Program}{w:World}{K:PySem.W.Frag}{mg:Str->Option Value}{base:Heap}
theorem zo0 (D:Cal P w K mg base x k φ)(c:lR X P w K mg base)(hr:zG k X.A)(hg:Gl X x)(h:EvA X α (e::es) λas=>φ as λa=>Q a.d)
  (b:(x == ("__debug__":Str))=false:=by decide) (he:starEach (e::es) X.env=(false,eval e X.env)::starEach es X.env:=by rfl) (hpl:(backTo pos (starEach es X.env)).any (·.1)=false:=by rfl):EvD X α (.Call (.Name x p) (e::es) [] pos) Q:=by
 obtain⟨rfl,rfl,rfl,rfl,rfl⟩:=c;exact pN D hr hg h b he hpl
theorem zg8 {Q:List PyData->Prop}(D:Cal P w K mg base x k φ)(c:lR X P w K mg base)(hr:zG k X.A)(hg:Gl X x)(h:EvA X α (e::es) λas=>φ as λa=>∃ds,a=.own ds/\Q ds)
  (b:(x == ("__debug__":Str))=false:=by decide) (he:starEach (e::es) X.env=(false,eval e X.env)::starEach es X.env:=by rfl) (hpl:(backTo pos (starEach es X.env)).any (·.1)=false:=by rfl):EvL X α (.Call (.Name x p) (e::es) [] pos) Q:=by
 obtain⟨rfl,rfl,rfl,rfl,rfl⟩:=c;exact vW D hr hg h b he hpl
theorem aC (D:ud P w K mg base x k [] φ)(c:lR X P w K mg base)(hr:zG (k+1) X.A)(hg:Gl X x)(h:EvA X α (e::es) λas=>φ as λa=>Q a.d)
  (b:(x == ("__debug__":Str))=false:=by decide) (he:starEach (e::es) X.env=(false,eval e X.env)::starEach es X.env:=by rfl) (hpl:(backTo pos (starEach es X.env)).any (·.1)=false:=by rfl):EvN X α (.Call (.Name x p) (e::es) [] pos) Q:=by
 obtain⟨rfl,rfl,rfl,rfl,rfl⟩:=c;exact zl5 D hr hg h b he hpl
theorem zb2 (D:xC P w K mg base C m k φ)(g:lR X P w K mg base)(hr:zG k X.A)(h:EvD X α o λx=>∃fs,x=wV C fs/\sk fs m=none/\EvA X α (e::es) λas=>φ (.dat (wV C fs)::as) λa=>Q a.d)
  (b:starEach (e::es) X.env=(false,eval e X.env)::starEach es X.env:=by rfl) (hpl:(backTo pos (starEach es X.env)).any (·.1)=false:=by rfl)
  (c:eval (.Call (.Attribute o m apos) (e::es) [] pos) X.env=(do
   let ov <-eval o X.env
   standAt apos.atName
   let(f,first) <-holding [ov] (getMethod ov m pl)
   callWith pos f first (backTo pos (starEach (e::es) X.env)) (backToKw pos (keywordEach [] X.env))):=by rfl):EvD X α (.Call (.Attribute o m apos) (e::es) [] pos) Q:=by
 obtain⟨rfl,rfl,rfl,rfl,rfl⟩:=g;exact pS D hr h b hpl c
theorem eI (D:xC P w K mg base C m k φ)(c:lR X P w K mg base)(hr:zG k X.A)(h:EvD X α o λx=>∃fs,x=wV C fs/\sk fs m=none/\φ [.dat (wV C fs)] λa=>Q a.d)
  (b:eval (.Call (.Attribute o m apos) [] [] pos) X.env=(do
   let ov <-eval o X.env
   standAt apos.atName
   let(f,first) <-holding [ov] (getMethod ov m pl)
   callWith pos f first (backTo pos (starEach [] X.env)) (backToKw pos (keywordEach [] X.env))):=by rfl):EvD X α (.Call (.Attribute o m apos) [] [] pos) Q:=by
 obtain⟨rfl,rfl,rfl,rfl,rfl⟩:=c;exact rV D hr h b
end
section
variable {X:Cx}{α:Ev}{pos:Pos}{Q:PyData->Prop}
end
section
variable {X:Cx}{α:Ev}{e ix:Expr}{pos:Pos}{rest:List Stmt}{E:yp}
end
section
variable {X:Cx}{tg:Expr}
variable {α:Ev}{a b c:Expr}{p pos:Pos}
end
theorem zN3 :typeLookup (.type "list") "keys"=pure none:=by rw[ye0,ya2];kernel_rfl
theorem gu {prog:Program}{w:World}{A:Around}{E:Value->Shared->Prop}{s:Shared}{a:Addr}{xs:Array Value}{k:Nat}{Q:Option Value->Shared->Prop}
  (i:s.heap.get? a=some {cls:=.type "list",data:=.seq xs k}) (j:A.handled=none)
  (h:∀h' tk,(∀b o,s.heap.get? b=some o->h'.get? b=some o)->Q none {s with heap:=h',toks:=tk}):
  wpAny (model prog w) A (getAttr? (.ref a) "keys") Q E s:=by
 obtain⟨l,g,d,tk,os⟩:=s;have hT:∀c,(⟨l,g,d,c,os⟩:Shared).TypeIs (.ref a) "list":=λ_=>⟨_,i,rfl⟩;have f1:=sub_AttributeError;have n:=ye7.lookup;have f4:=ye7.bind (.ref a);have p:=am_list_getattr_none;unfold getAttr? getAttrBy? getAttrBy
 repeat (any_goals (first|assumption|exact hT _|((with_reducible show wpAny _ _ (call (Value.builtin "list.__getattribute__") _ _) _ _ _);refine call_meets ye7 (hT _) am_entry_list_getattribute (F.args_list_getattribute_2 _ _) (meets_getattribute_miss_list a xs k #[] "keys" _ zN3 (by decide +kernel) (by size_fits)) ⟨i,j,λh' c e f=>?_⟩)|wp_step))
 obtain⟨t',m,he⟩:=f.there;show wpAny _ _ (getattributeRaised _ _ _ _ _ _ _) _ _ _;unfold getattributeRaised
 repeat (any_goals (first|assumption|wp_step))
 exact h _ _ f.of.keeps
theorem uv :plainId "dict.update.loop"=true:=by decide +kernel
theorem mZ :entryFor table "dict.update.loop"=some Builtin.«dict.update.loop»:=entryFor_of_fast (by kernel_rfl)
section
variable {prog:Program}{w:World}{K:Type}[DecidableEq K](knd:KeyKind prog w K)
def kd (h:Heap)(u:Value)(x:List K×Addr×Value):Prop:=∃p o n,u=.ref p/\h.get? p=some o/\o.cls=.type "tuple"/\o.data=.seq #[.ref x.2.1,x.2.2] n/\IsTupleKey knd h x.1 x.2.1
variable {knd}
theorem cH {h h':Heap}{ks:List K}{a:Addr}(x:IsTupleKey knd h ks a)(k:∀b o,h.get? b=some o->h'.get? b=some o):IsTupleKey knd h' ks a:=by
 obtain⟨o,items,n,d,c⟩:=x;exact⟨o,items,n,k _ _ d,c⟩
def ia (acc xs:List (List K×Addr×Value)):List (List K×Addr×Value):=xs.foldl (λa x=>storedH a x.1 x.2.1 x.2.2) acc
theorem jE (xs:List (List K×Addr×Value))(k:List K)(a:Addr)(v:Value):(storedH xs k a v).length<=xs.length+1:=by unfold storedH;split<;>simp
theorem mF {h h':Heap}{d it l:Addr}{i:Nat}{acc:List (List K×Addr×Value)}(hd:h.DictOfH (tupleKind knd) d acc)(hne:it≠d)(hit:h.IsListIter it l i)(hk:∀b o,b≠it->h.get? b=some o->h'.get? b=some o):h'.DictOfH (tupleKind knd) d acc:=by
 obtain⟨q,j,f,g1,g2,g3,k,c,a⟩:=hd;refine⟨q,j,f,hk d q (z24 hne) g1,g2,g3,k,λx e=>?_,a⟩;obtain⟨o',items,m,k1,k2,k3,g⟩:=c x e;refine⟨o',items,m,hk _ _ (λz=>?_) k1,k2,k3,g⟩;obtain⟨n,i1,i2,i3⟩:=hit;rw[z,i1]at k1;cases k1;rw[i2]at k2;exact absurd (Value.type.inj k2) (by decide)
theorem zl7 {A:Around}{R:Result->Shared->Prop}{h₀:Heap}{d it l:Addr}{its:List Value}(M:A.units+1<cLine)(O:A.handled=none)(E:h₀.IsList l its.toArray)(m:h₀.get? it=none)(C:h₀.get? d=none)(hne:it≠d):
  ∀(us:List Value) (xs:List (List K×Addr×Value)),Paired (kd knd h₀) us xs->∀(i:Nat) (s:Shared) (acc:List (List K×Addr×Value)) (t:Tok),its.drop i=us->s.heap.IsListIter it l i->(∀b o,h₀.get? b=some o->s.heap.get? b=some o)->
  s.heap.DictOfH (tupleKind knd) d acc->acc.length+us.length<=sizeLine->
  (∀h' tk,(∀b o,h₀.get? b=some o->h'.get? b=some o)->h'.DictOfH (tupleKind knd) d (ia acc xs)->R (.ok (.ret .none)) {s with heap:=h',toks:=tk})->
  codeAny (model prog w) A (.builtin "dict.update.loop" ⟨[.ref d,.ref it,.int i t,.none],[]⟩) R s:=by
 intro us xs I
 induction I with
 |nil=>
  intro i s acc t c hit hk hd hsz D;refine ya1 mZ ?_;rw[z75 uv _];show wpAny _ A.in1 (pyNext (.ref it) >>= _) _ _ s;obtain⟨o,B,f,n,r⟩:=E;refine zX5 (wpAny_pyNext_list_end (items:=its.toArray) O hit ⟨o,hk _ _ B,f,n,r⟩ (by rw[yc1,List.getElem?_eq_none_iff];exact List.drop_eq_nil_iff.mp c) λh' he=>?_);show wpAny _ A.in1 (Builtin.Dict.addKeywords d [] >>= _) _ _ _;refine zX5 (zY3 (zY3 ?_));have a:∀b o,h₀.get? b=some o->h'.get? b=some o:=λb o e=>he b o (λz=>by rw[z,m]at e;cases e) (hk b o e);refine D h' s.toks a ?_;exact mF hd hne hit he
 |@cons u x us' xs' hpx _ ih=>
  intro i s acc t c hit hk hd hsz D;obtain⟨p,o,n,rfl,e1,J,N,G⟩:=hpx;refine ya1 mZ ?_;rw[z75 uv _];show wpAny _ A.in1 (pyNext (.ref it) >>= _) _ _ s;obtain⟨ol,B,f,nl,r⟩:=id E;refine zX5 (wpAny_pyNext_list_item (items:=its.toArray) hit ⟨ol,hk _ _ B,f,nl,r⟩ (x:=.ref p) (by
   rw[yc1];have:(its.drop i)[0]?=some (Value.ref p):=by rw[c];rfl
   rw[List.getElem?_drop]at this;simpa using this) λh' j q=>?_)
  have a:∀b o,h₀.get? b=some o->h'.get? b=some o:=λb o e=>by rw[q.2 b (λz=>by rw[z,m]at e;cases e)];exact hk b o e
  have hT:(⟨h',s.gens,s.drawn,s.toks,s.os⟩:Shared).TypeIs (.ref p) "tuple":=⟨o,a _ _ e1,J⟩;refine zX5 (z34 ?_);refine zX5 (yf0 ?_);unfold Builtin.Dict.pairItems;refine zX5 (yh6 hT ?_);rw[if_pos (by decide)];refine zX5 (z49 (a _ _ e1) N (zY3 ?_));show wpAny _ A.in1 (holding _ (dictSet d (.ref x.2.1) x.2.2)) _ _ _;refine z34 ?_;have y:h'.DictOfH (tupleKind knd) d acc:=mF hd hne hit λb o hb e=>by rw[q.2 b hb];exact e
  refine wpAny_dictSet_heap (knd:=tupleKind knd) (k:=x.1) (xs:=acc) (show A.units+1<cLine from M) (cH G a) y (λf hd2 h=>?_) (by simp at hsz;exact zY8 (zZ3 _ _) hsz);have v:∀b o,h₀.get? b=some o->f.get? b=some o:=λb o e=>by rw[h.2 b (λz=>by rw[z,C]at e;cases e)];exact a b o e
  refine zY3 ⟨z84 uv _,?_⟩;have g:f.IsListIter it l (i+1):=by
   obtain⟨H,i1,i2,i3⟩:=j;exact⟨H,by rw[h.2 it hne];exact i1,i2,i3⟩
  refine ih (i+1) _ (storedH acc x.1 x.2.1 x.2.2) _ ?_ g v hd2 ?_ λr tk L F=>D r tk L F
  ·rw[<-List.drop_drop,c];rfl
  ·have:=jE acc x.1 x.2.1 x.2.2;simp at hsz;lia
theorem zo6 {A:Around}{E:Value->Shared->Prop}{s:Shared}{l:Addr}{its:List Value}{n:Nat}{xs:List (List K×Addr×Value)}{Q:Value->Shared->Prop}(B:A.units+3<cLine)(j:A.handled=none)
  (g:s.heap.get? l=some {cls:=.type "list",data:=.seq its.toArray n}) (t:Paired (kd knd s.heap) its xs) (hsz:its.length<=sizeLine)
  (h:∀p h' tk,s.heap.objs.size<=p->(∀b o,s.heap.get? b=some o->h'.get? b=some o)->h'.DictOfH (tupleKind knd) p (ia [] xs)->Q (.ref p) {s with heap:=h',toks:=tk}):
  wpAny (model prog w) A (call (.type "dict") [.ref l]) Q E s:=by
 refine callType_codes (Q₁:=λobj c=>obj=.ref s.heap.objs.size/\c={s with heap:=s.heap.push {cls:=.type "dict",data:=.dict #[]}}) F.kt_called_dict (F.kt_typeCall_dict_1 _) F.entry_dict_init (kt_code_dict_new _ ⟨rfl,rfl⟩) ?_;rintro obj c ⟨rfl,rfl⟩;have a:(s.heap.push {cls:=.type "dict",data:=.dict #[]}).DictOfH (tupleKind knd) s.heap.objs.size []:=Heap.DictOfH.new s.heap;have kp:∀b o,s.heap.get? b=some o->(s.heap.push {cls:=.type "dict",data:=.dict #[]}).get? b=some o:=λb o e=>zX6 _ e;have hT:(⟨s.heap.push {cls:=.type "dict",data:=.dict #[]},s.gens,s.drawn,s.toks,s.os⟩:Shared).TypeIs (.ref l) "list":=⟨_,kp _ _ g,rfl⟩;refine⟨a.typeIs,F.args_dict_init_2 _ _,?_⟩;unfold Builtin.«dict.__init__»;refine zX5 ?_;unfold Builtin.Dict.selfAndRest;refine zX5 (wpAny_notOrdered_dict a.typeIs ?_);show wpAny _ _ (pure (s.heap.objs.size,[Value.ref l])) _ _ _;refine zY3 ?_;show wpAny _ _ (Builtin.Dict.updateFrom "dict.__init__" s.heap.objs.size (.ref l) [] .none) _ _ _;unfold Builtin.Dict.updateFrom;refine zX5 (yh6 hT ?_);rw[if_pos (by decide)];refine zX5 (gu (kp _ _ g) j λf m k1=>?_);rw[if_pos (show(none:Option Value).isNone=true from rfl)];refine zX5 (wpAny_rule ?_);have d:∀b o,s.heap.get? b=some o->f.get? b=some o:=λb o e=>k1 b o (kp b o e);refine zX5 (z67 (items:=its.toArray) ⟨_,d _ _ g,rfl,n,rfl⟩ ?_);refine zY3 ⟨z84 uv _,?_⟩;have fr:s.heap.get? s.heap.objs.size=none:=by
  cases q:s.heap.get? s.heap.objs.size with
  |none=>rfl
  |some o=>exact absurd (zY5 q) (z33 _)
 have big:s.heap.objs.size<f.objs.size:=zY5 (k1 _ _ (zY7 _ rfl));have i:s.heap.get? f.objs.size=none:=by
  cases q:s.heap.get? f.objs.size with
  |none=>rfl
  |some o=>exact absurd (Nat.lt_trans (zY5 q) big) (z33 _)
 refine zl7 (h₀:=s.heap) (its:=its) (A:=A.in1) (by show A.units+1+1<cLine;lia) j ⟨_,g,rfl,n,rfl⟩ i fr (z71 big) its xs t 0 _ [] _ rfl ⟨_,zY7 _ rfl,rfl,rfl⟩ (λb o e=>zX6 _ (d b o e)) ?_ (by simpa using hsz) ?_
 ·obtain⟨q,r,k,g1,g2,g3,u,z,v⟩:=a;exact⟨q,r,k,zX6 _ (k1 _ _ g1),g2,g3,u,(λx y=>by simp at y),v⟩
 ·intro h' tk hk hd;exact⟨rfl,h _ h' tk (zY1 _) hk hd⟩
end
def va (acc kvs:List (List Key×V)):List (List Key×V):=kvs.foldl (λa b=>putK a b.1 b.2) acc
def iP (H:Hp)(x:V)(a:List Key×V):Prop:=∃p b,x=.ref p/\H p=some (.tup [.ref b,a.2])/\H b=some (.tup (a.1.map kV))
theorem pd :∀(kvs acc:List (List Key×V)),(va acc kvs).length<=acc.length+kvs.length
 |[],acc=>zY1 _
 |a::r,acc=>by
  have c:=pd r (putK acc a.1 a.2);have b:=xI acc a.1 a.2;show(va (putK acc a.1 a.2) r).length<=_;simp only[z00];exact zR7 c b
def qf {β:Type}(kvs:List (List Key×β))(k:List Key):Bool:=kvs.any λp=>decide (p.1=k)
theorem qY {β a:Type}{k:List Key}:∀{xs:List (List Key×β)}{ys:List (List Key×a)},xs.map Prod.fst=ys.map Prod.fst->qf xs k=qf ys k
 |[],[],_=>rfl
 |[],_::_,h=>by simp at h
 |_::_,[],h=>by simp at h
 |x::xs,y::ys,h=>by
  simp only[z03,List.cons.injEq]at h;have:=qY (k:=k) h.2;unfold qf at this ⊢;rw[z83,z83,this,h.1]
theorem qO (k:List Key):∀(kvs acc:List (List Key×V)),(yO (va acc kvs) k).isSome=((yO acc k).isSome||qf kvs k)
 |[],acc=>by simp[va,qf]
 |a::r,acc=>by
  show(yO (va (putK acc a.1 a.2) r) k).isSome=_;rw[qO k r,zc0];by_cases e:k=a.1
  ·rw[if_pos e];simp[e,qf]
  ·rw[if_neg e];have b:¬a.1=k:=λz=>e z.symm;simp[qf,b]
theorem qT {P:V->Prop}:∀(kvs acc:List (List Key×V)),(∀a∈acc,P a.2)->(∀a∈kvs,P a.2)->∀a∈va acc kvs,P a.2
 |[],acc,h,_=>h
 |a::r,acc,h,h'=>by
  refine qT r (putK acc a.1 a.2) (λq hq=>?_) λq hq=>h' q (zY6 _ hq);unfold putK at hq;split at hq
  ·obtain⟨z,hz,rfl⟩:=z74.mp hq;split
   ·exact h' a zY9
   ·exact h z hz
  ·rcases z01.mp hq with hq|hq
   ·exact h q hq
   ·cases zY2.mp hq;exact h' a zY9
theorem KT.fold {H:Hp}:∀{kvs:List (List Key×V)}{xs:List (List Key×Addr×Value)}{acc:List (List Key×V)}{ys:List (List Key×Addr×Value)},KT H kvs xs->KT H acc ys->KT H (va acc kvs) (ia ys xs):=by
 intro kvs xs acc ys r
 induction r generalizing acc ys with
 |nil=>exact λh=>h
 |@cons p q ps qs hq t ih=>
  intro h;obtain⟨k,b,v⟩:=q;obtain⟨e1,d,c⟩:=hq;have a:p.1=k:=e1;subst a;exact ih (KT.put h p.1 d c)
section
variable {X:Cx}
theorem cL {pins:List (Addr×Obj)}{σ:St}{H:Hp}{s:Shared}(I:Inv X pins σ H s):∀{ps:List V}{kvs:List (List Key×V)}{its:List Value},Paired (iP H) ps kvs->Vals ps its->∃xs,KT H kvs xs/\Paired (kd (zJ X.prog X.w) s.heap) its xs:=by
 intro ps kvs its r
 induction r generalizing its with
 |nil=>intro h;cases h;exact⟨[],.nil,.nil⟩
 |@cons x kv ps kvs hx t ih=>
  intro h;cases h with
  |@cons _ u _ us r1 r2=>
   obtain⟨xs,d,c⟩:=ih r2;obtain⟨p,b,rfl,e1,a⟩:=hx;cases r1;obtain⟨_,its,e,o,g1,g2,n,g3⟩:=(show zA X.prog X.w H s.heap p (.tup [.ref b,kv.2])from I.hok p _ e1);cases e with
   |@cons _ u1 _ us1 a1 a2=>
    cases a1;cases a2 with
    |@cons _ u2 _ us2 a3 a4=>
     cases a4;refine⟨(kv.1,b,u2)::xs,.cons ⟨rfl,a,a3⟩ d,.cons ⟨p,o,n,rfl,g1,g2,g3,?_⟩ c⟩;exact uT I.hok a
theorem jx (v:X.calm=true)(x:X.A.units+3<cLine):yI X (.type "dict") (λxs H Q=>∃(l:Addr) (ps:List V) (kvs:List (List Key×V)),xs=[.ref l]/\H l=some (.lst ps)/\Paired (iP H) ps kvs/\∀p,H p=none->∀o,Q (.ref p) (upd H p (.frz o (.dT (va [] kvs))))):=by
 intro pins s σ H xs us Q I r h;obtain⟨l,ps,kvs,rfl,m,f,q⟩:=h;obtain⟨u,rfl,y⟩:=vals1 r;cases y;obtain⟨z,its,n,d,hg⟩:=(show zA X.prog X.w H s.heap l (.lst ps)from I.hok l _ m);obtain⟨xs,kt,g⟩:=cL I f d;have hlen:kvs.length=ps.length:=f.length.symm;refine zo6 (knd:=zJ X.prog X.w) x (I.ok.hd v) hg g (by rw[<-d.length];exact z) λp h' tk c hk hd=>?_;obtain⟨o,j,i,g1,g2,g3,k,B,t⟩:=hd;have hn:H p=none:=I.hok.fresh c;refine⟨.ref p,_,I.laid (a:=p) (o:=.frz o (.dT (va [] kvs))) (t':=tk) hk c ⟨g1,?_,?_,ia [] xs,?_,o,j,i,g1,g2,g3,k,t⟩,rfl,q p hn o⟩
 ·have:=pd kvs [];simp at this;exact zY8 this (zY8 (zZ5 hlen) z)
 ·exact z79.mpr (z24 (zZ7 (zX8 I.big c)))
 ·exact KT.keeps (KT.fold kt .nil) λb ys e=>by rw[zc (zh e hn)];exact e
end
abbrev tL (ds:List (PyData×PyData)):PyData:=.dict ((.none,.bool true)::ds)
def sx (k:List Key):PyData:=.tuple (k.map yZ)
noncomputable def inT (ds:List (PyData×PyData))(k:List Key):Bool:=open Classical in decide (∃d,(sx k,d)∈ds)
theorem zb3 {a b:Key}(h:yZ a=yZ b):a=b:=by
 cases a<;>cases b<;>simp[yZ]at h<;>rw[h]
theorem aP {a b:List Key}(h:sx a=sx b):a=b:=by
 unfold sx at h;injection h with h
 induction a generalizing b with
 |nil=>cases b with
  |nil=>rfl
  |cons _ _=>simp at h
 |cons x a c=>cases b with
  |nil=>simp at h
  |cons y b=>
   simp only[z03,List.cons.injEq]at h;rw[zb3 h.1,c h.2]
theorem AVt.some_iff {H:Hp}:∀{kvs:List (List Key×V)}{ds:List (PyData×PyData)} (_:AVt H kvs ds) (k:List Key),(yO kvs k).isSome=inT ds k
 |_,_,.nil,k=>by simp[yO,inT]
 |_,_,.cons (k:=k') (x:=x) (fs:=fs) (d:=d) (ds:=ds) a r,k=>by
  have b:=AVt.some_iff r k;unfold inT at b ⊢;by_cases e:k'=k
  ·rw[ya (p:=(k',x)) e];subst e
   symm
   simp only[Option.isSome_some,z44];exact⟨d,zY9⟩
  ·rw[zU (p:=(k',x)) e,b]
   congr 1
   apply propext
   constructor
   ·rintro⟨d',h⟩;exact⟨d',zY6 _ h⟩
   ·rintro⟨d',h⟩;rcases zY4.mp h with h|h
    ·have:=congrArg Prod.fst h;exact absurd (aP (show sx k=sx k' from this)).symm e
    ·exact⟨d',h⟩
theorem za6 {G:Hp}:∀(kvs:List (List Key×V)),(∀c∈kvs,∃d,AV G c.2 d)->∃ds,AVt G kvs ds
 |[],_=>⟨[],.nil⟩
 |(k,v)::r,h=>by
  obtain⟨d,hd⟩:=h (k,v) zY9;obtain⟨ds,b⟩:=za6 r λc a=>h c (zY6 _ a);exact⟨_,.cons hd b⟩
theorem AV.dt_inv {H:Hp}{v:V}{ds:List (PyData×PyData)}(h:AV H v (tL ds)):∃a o kvs,v=.ref a/\H a=some (.frz o (.dT kvs))/\AVt H kvs ds:=by
 cases h with
 |dt c b=>exact⟨_,_,_,rfl,c,b⟩
theorem iQ {H:Hp}{v:V}{k:List Key}(h:AV H v (sx k)):∃b,v=.ref b/\H b=some (.tup (k.map kV)):=by
 unfold sx at h;cases h with
 |@tup a xs _ h1 h2=>
  refine⟨a,rfl,?_⟩;rw[h1]
  congr 2
  clear h1
  induction k generalizing xs with
  |nil=>cases h2;rfl
  |cons x k d=>
   cases h2 with
   |cons e c=>rw[uG e,d c];rfl
def prD (p:List Key×PyData):PyData:=.tuple [sx p.1,p.2]
theorem dB {G:Hp}:∀{vs:List V}{xs:List (List Key×PyData)},AVs G vs (xs.map prD)->∃kvs,Paired (iP G) vs kvs/\kvs.map Prod.fst=xs.map Prod.fst/\∀f∈kvs,∃d,AV G f.2 d
 |_,[],.nil=>⟨[],.nil,rfl,λ_ h=>nomatch h⟩
 |_,(k,d)::xs,.cons h r=>by
  obtain⟨kvs,j,g,l⟩:=dB r;unfold prD at h;cases h with
  |tup e a=>
   cases a with
   |cons a1 a2=>
    cases a2 with
    |cons i m=>
     cases m;obtain⟨b,rfl,hb⟩:=iQ a1;refine⟨(k,_)::kvs,.cons ⟨_,b,rfl,e,hb⟩ j,by simp[g],λf c=>?_⟩;rcases zY4.mp c with rfl|c
     ·exact⟨d,i⟩
     ·exact l f c
section
variable {X:Cx}{α:Ev}{e a b:Expr}{p pos:Pos}{Q:PyData->Prop}
theorem cU (w:X.calm=true)(D:X.A.units+64<cLine)(hg:Gl X "dict")(hm:X.mg "dict"=none)
  (h:EvD X α e λx=>∃xs:List (List Key×PyData),x=.list (xs.map prD)/\∀ds,(∀k,inT ds k=qf xs k)->Q (tL ds))
  (he:starEach [e] X.env=(false,eval e X.env)::starEach [] X.env:=by rfl):EvD X α (.Call (.Name "dict" p) [e] [] pos) Q:=λF σ H R m k=>by
 refine⟨_,xr (jx w (by lia)) hg hm (by decide) (zp zg zF he) (he:=he),?_⟩;refine h F σ H _ m λx E H1 y t1 k1 r=>?_;obtain⟨xs,rfl,q⟩:=y;have m1:=m.kz k1 t1;cases r with
 |@lst l ps _ e1 e2=>
  obtain⟨kvs,B,z,s⟩:=dB e2;have i:Paired (iP H1) ps kvs:=Paired.mapP B λx C g=>by obtain⟨p,b,u,n,z3⟩:=g;exact⟨p,b,u,(zb n).2,(zb z3).2⟩
  refine⟨l,ps,kvs,rfl,(zb e1).2,i,λpn c o=>?_⟩;obtain⟨ds,f⟩:=za6 (G:=Gz F α σ H1) (va [] kvs) (qT (P:=λv=>∃d,AV (Gz F α σ H1) v d) kvs [] (λ_ h=>nomatch h) s);have t:zw (Gz F α σ H1) (Gz F α σ (upd H1 pn (.frz o (.dT (va [] kvs))))):=zm λa o' ha e=>⟨ha,by rw[zc (zh e c)];exact e⟩;refine k (tL ds) (.ref pn) _ (q ds λj=>?_) (m1.tp.same (zW c)) (k1.trans (Kz.of_same (zW c))) (.dt (o:=o) (zu (m1.fresh c) zf) (f.same t));rw[<-f.some_iff j,qO,<-qY z];simp[yO]
def zT8 (neg:Bool):R2:=λx y H Q=>∃d ds,DV H x d/\DV H y (.list ds)/\d.canLay0=true/\PyData.canLayAll0 ds=true/\d.depth<=60/\Q (.bl (if neg then !(ds.any λy=>PyData.eqv y d)else ds.any λy=>PyData.eqv y d)) H
theorem zH7 (g:X.A.units+64<cLine):OpR X (compareOp .In) (zT8 false):=by
 intro pins s σ H x y v u Q I i f h;obtain⟨d,ds,hd,he,c,j,dp,q⟩:=h;obtain⟨as,k⟩:=hd.reads I i;obtain⟨bs,l⟩:=he.reads I f;exact SeqAt.in_list_reads l k j c (by have:=yg4 (PyData.depthAll ds) d.depth;exact zK2 g dp) ⟨.bl _,H,I,rfl,q⟩
theorem fb (g:X.A.units+64<cLine):OpR X (compareOp .NotIn) (zT8 true):=by
 intro pins s σ H x y v u Q I i f h;obtain⟨d,ds,hd,he,c,j,dp,q⟩:=h;obtain⟨as,k⟩:=hd.reads I i;obtain⟨bs,l⟩:=he.reads I f;exact SeqAt.notIn_list_reads l k j c (by have:=yg4 (PyData.depthAll ds) d.depth;exact zK2 g dp) ⟨.bl _,H,I,rfl,q⟩
theorem zH9 {Q:Bool->Prop}(g:X.A.units+64<cLine)(h:EvD X α a λx=>EvD X α b λy=>∃ds,y=.list ds/\x.canLay0=true/\PyData.canLayAll0 ds=true/\x.hasDict=false/\PyData.hasDictAll ds=false/\x.depth<=60/\Q (ds.any λy=>PyData.eqv y x))(hm:behindInMarks .In b=false:=by rfl):EvT X α (.Compare a [.In] [b] pos) Q:=
 xU (zH7 g) hm (h.imp λx h=>h.imp λy c=>by obtain⟨ds,e,s1,s2,d,i,dp,hq⟩:=c;exact⟨_,λp H k l R j f z=>⟨x,ds,(j.dv d).same yz,by subst e;exact(f.dv (by simpa only[PyData.hasDict]using i)).same yz,s1,s2,dp,z⟩,hq⟩)
theorem ed {Q:Bool->Prop}(g:X.A.units+64<cLine)(h:EvD X α a λx=>EvD X α b λy=>∃ds,y=.list ds/\x.canLay0=true/\PyData.canLayAll0 ds=true/\x.hasDict=false/\PyData.hasDictAll ds=false/\x.depth<=60/\Q (!ds.any λy=>PyData.eqv y x))(hm:behindInMarks .NotIn b=false:=by rfl):EvT X α (.Compare a [.NotIn] [b] pos) Q:=
 xU (fb g) hm (h.imp λx h=>h.imp λy c=>by obtain⟨ds,e,s1,s2,d,i,dp,hq⟩:=c;exact⟨_,λp H k l R j f z=>⟨x,ds,(j.dv d).same yz,by subst e;exact(f.dv (by simpa only[PyData.hasDict]using i)).same yz,s1,s2,dp,z⟩,hq⟩)
theorem zo5 {x:PyData}{ds:List (PyData×PyData)}{k:List Key}{T:Bool->Prop}(e:x=sx k)(q:T (inT ds k)):og X x (tL ds) T:=by
 subst e;have key:∀(p:Addr->Prop) (H:Hp) (c d:V),AV (sub p H) c (sx k)->AV (sub p H) d (tL ds)->∃a o,d=.ref a/\mV H a c o/\o.isSome=inT ds k:=λp H c d g f=>by
  obtain⟨a,o,kvs,rfl,g1,g2⟩:=f.dt_inv;obtain⟨b,rfl,hb⟩:=iQ g;exact⟨a,_,rfl,.inr ⟨kvs,k,b,.inr ⟨o,(zb g1).2⟩,rfl,(zb hb).2,rfl⟩,g2.some_iff k⟩
 refine⟨_,λp H c d R g f h=>?_,λp H c d R g f h=>?_,q⟩
 ·obtain⟨a,o,e1,j,i⟩:=key p H c d g f;exact .inr ⟨a,o,e1,j,by rw[if_neg (by decide),i];exact h⟩
 ·obtain⟨a,o,e1,j,i⟩:=key p H c d g f;exact .inr ⟨a,o,e1,j,by rw[if_pos rfl,i];exact h⟩
theorem aV {n z:Int}{x:Str}{ds:List (PyData×PyData)}{T:Bool->Prop}(q:T (inT ds [.inl n,.inr x,.inl z])):og X (.tuple [.int n,.str x,.int z]) (tL ds) T:=zo5 rfl q
end
structure Moved (fs:List Addr)(e:Addr)(ts:List Addr)(h h':Heap):Prop where
 keep:∀b o,b≠e->b∉ts->b∉fs->h.get? b=some o->h'.get? b=some o
 slot:∀b o,b∈fs->h.get? b=some o->∃sl,h'.get? b=some {o with slots:=sl}
 exc:∀o vs,h.get? e=some o->o.data=.fields vs->∃o' vs',h'.get? e=some o'/\o'.cls=o.cls/\o'.dict=o.dict/\o'.data=.fields vs'
 there:∀b o,h.get? b=some o->∃o',h'.get? b=some o'
def Ent (h base:Heap)(e T:Addr)(fl:Value):Prop:=
 ∃oe vs b a,h.get? e=some oe/\oe.data=.fields vs/\vs[1]?=some (.ref T)/\T≠e/\base.get? T=none/\h.get? T=some b/\b.data=.fields a/\a[3]?=some fl
def Beg (h base:Heap)(e:Addr)(ts:List Addr):Prop:=
 (ts=[]/\∃oe vs,h.get? e=some oe/\oe.data=.fields vs/\vs[1]?=some .none)\/∃T,ts=[T]/\Ent h base e T .none
theorem tP {base h:Heap}{l:List Env}{b:Addr}(a:h.FunFrames base l)(hb:b∈frs l):base.get? b=none/\∃o,h.get? b=some o/\∀vs,o.data≠.fields vs:=a.mem hb
section
variable {M:Model}{A:Around}{E:Value->Shared->Prop}{s:Shared}
theorem vF (o:Obj)(f:Array Value->Array Value):(o.mapFields f).cls=o.cls/\(o.mapFields f).dict=o.dict:=by
 obtain⟨c,d,dt,sl⟩:=o;cases dt<;>exact⟨rfl,rfl⟩
theorem qB {fs:List Addr}{e T:Addr}{h:Heap}{c:Obj}{g:Array Value}{f:Array Value->Array Value}(hT:h.get? T=some c)(hd:c.data=.fields g)(a:∀b∈fs,b≠T):Moved fs e [T] h (h.update T (Obj.mapFields f)) where
 keep:=λb o _ hb _ q=>by
  rw[zZ2 _ _ (λz=>hb (by rw[<-z];exact zY2.mpr rfl))];exact q
 slot:=λb o hb q=>⟨o.slots,by rw[zZ2 _ _ (z24 (a b hb))];exact q⟩
 exc:=λo vs q d=>by
  by_cases z:T=e
  ·subst z;rw[hT]at q;cases q;refine⟨_,_,z48 _ hT (ya3 (z98 hd _)),(vF _ _).1,(vF _ _).2,z98 hd _⟩
  ·exact⟨o,vs,by rw[zZ2 _ _ z];exact q,rfl,rfl,d⟩
 there:=λb o q=>by
  by_cases z:T=b
  ·subst z;exact⟨_,z48 _ hT (ya3 (z98 hd _))⟩
  ·exact⟨o,by rw[zZ2 _ _ z];exact q⟩
theorem zo9 {base:Heap}{l:List Env}{e T:Addr}{fl:Value}{fo:Option Addr}{Q:Unit->Shared->Prop}(d:s.heap.FunFrames base l)(hk:base.StaysIn s.heap)(x:Ent s.heap base e T fl)
  (h:∀h',Moved (frs l) e [T] s.heap h'->Ent h' base e T (fo.elim .none λf=>rawInt f)->h'.FunFrames base l->base.StaysIn h'->h'.objs.size=s.heap.objs.size->Q () {s with heap:=h'}):wpAny M A (setFlight (.ref e) fo) Q E s:=by
 obtain⟨oe,vs,m,j,he,hd,g,hne,hb,hT,a,k⟩:=x;have hsz:3<j.size:=(z63.mp k).1;unfold setFlight;refine zX5 (z65 he hd g ?_);rw[if_pos (show(Value.ref T != Value.none)=true from by simp)];refine wpAny_setField hT a hsz (h _ (qB hT a λb c z=>?_) ?_ ?_ ?_ (by simp))
 ·obtain⟨_,o,i,hn⟩:=tP d c;rw[z,hT]at i;cases i;exact hn _ a
 ·exact⟨oe,vs,_,_,by rw[zZ2 _ _ hne];exact he,hd,g,hne,hb,z48 _ hT (ya3 (z98 a _)),z98 a _,by simp[hsz]⟩
 ·refine d.of_keeps λb o c hn=>⟨o,?_,rfl⟩;rw[zZ2 _ _ (λz=>by subst z;rw[hT]at c;cases c;exact hn _ a)];exact c
 ·intro b o q;rw[zZ2 _ _ (λz=>by subst z;rw[hb]at q;cases q)];exact hk b o q
theorem dF {base:Heap}{env:Env}{outer:List Env}{L e:Addr}{oe:Obj}{vs:Array Value}{head:Value}{l:Bool}{Q:Unit->Shared->Prop}
  (y:A.frames=some (env::outer)) (w:s.heap.FunFrames base (env::outer)) (hf:env.frame=some L) (he:s.heap.get? e=some oe) (F:base.StaysIn s.heap) (G:base.get? e=none) (hd:oe.data=.fields vs) (hsz:1<vs.size)
  (h:∀h' T,Moved (frs (env::outer)) e [] s.heap h'->s.heap.objs.size<=T->Ent h' base e T (rawInt L)->h'.FunFrames base (env::outer)->base.StaysIn h'->Q () {s with heap:=h'}):
  wpAny M A (do let a <-frameOf env;let pl <-entryPlaceOf L l;let b <-EntryCells.newEntry head a .none (rawInt L) .none pl;setField (.ref e) 1 b) Q E s:=by
 have n:e∉frs (env::outer):=λhm=>by
  obtain⟨_,o,x,D⟩:=tP w hm;rw[he]at x;injection x with x;subst x;exact D vs hd
 refine zX5 (wpAny_frameOf_fun y w hf λc f=>?_);refine zX5 (wpAny_entryPlaceOf λpl hpl=>?_);unfold EntryCells.newEntry newFields;refine zX5 (wpAny_newObj_type ?_ (hpl.sizeOk5 _ _ _ _ _));have k:c.get? e=some oe:=(f.2.1 e n).trans he;have j:base.StaysIn c:=λb o p=>(f.2.1 b λhm=>by rw[(tP w hm).1]at p;cases p).trans (F b o p);generalize C:({cls:=.type "traceback",dict:=none,data:=.fields ([head,.ref L,.none,rawInt L,.none]++(if pl.isEmpty then List.replicate 6 Value.none else pl)).toArray}:Obj)=ob;have t:ob.data=.fields ([head,.ref L,.none,rawInt L,.none]++(if pl.isEmpty then List.replicate 6 Value.none else pl)).toArray:=by rw[<-C]
 have m:=zX6 (h:=c) ob k;refine wpAny_setField m hd hsz ?_;have u:c.objs.size≠e:=z71 (zY5 k);have g:=z98 hd (·.setIfInBounds 1 (Value.ref c.objs.size));have i:=z48 (Obj.mapFields (·.setIfInBounds 1 (Value.ref c.objs.size))) m (ya3 g);have r:((c.push ob).update e (Obj.mapFields (·.setIfInBounds 1 (Value.ref c.objs.size)))).get? c.objs.size=some ob:=
  (zZ2 (c.push ob) (Obj.mapFields (·.setIfInBounds 1 (Value.ref c.objs.size))) (z24 u)).trans (zY7 c (ya3 t))
 have keep:∀b o,b≠e->c.get? b=some o->((c.push ob).update e (Obj.mapFields (·.setIfInBounds 1 (Value.ref c.objs.size)))).get? b=some o:=λb o B hb=>by
  rw[zZ2 _ _ (z24 B)];exact zX6 _ hb
 refine h _ c.objs.size ⟨λb o hb _ hf q=>keep b o hb ((f.2.1 b hf).trans q),λb o hb q=>?_,λo vs' q d=>?_,λb o q=>?_⟩ (by rw[f.1];exact zY1 _) ⟨_,_,ob,_,i,g,by simp[hsz],u,j.fresh,r,t,by simp⟩ ?_ (λb o q=>keep b o (λz=>by rw[z,G]at q;cases q) (j b o q))
 ·obtain⟨sl,v⟩:=f.2.2 b o q;exact⟨sl,keep b _ (λz=>n (z▸hb)) v⟩
 ·rw[he]at q;cases q;exact⟨_,_,i,(vF _ _).1,(vF _ _).2,g⟩
 ·by_cases z:b=e
  ·subst z;exact⟨_,i⟩
  ·obtain⟨sl,v⟩:=f.2.2 b o q;exact⟨_,keep b _ z v⟩
 ·refine w.of_keeps λb o hb hn=>?_;obtain⟨sl,v⟩:=f.2.2 b o hb;exact⟨_,keep b _ (λz=>by subst z;rw[he]at hb;cases hb;exact hn _ hd) v,rfl⟩
theorem zK1 {base:Heap}{env:Env}{outer:List Env}{L e:Addr}{ts:List Addr}{Q:Unit->Shared->Prop}
  (f:A.frames=some (env::outer)) (n:s.heap.FunFrames base (env::outer)) (hf:env.frame=some L) (j:base.StaysIn s.heap) (k:base.get? e=none) (x:Beg s.heap base e ts)
  (h:∀h' T,Moved (frs (env::outer)) e ts s.heap h'->s.heap.objs.size<=T->Ent h' base e T (rawInt L)->h'.FunFrames base (env::outer)->base.StaysIn h'->Q () {s with heap:=h'}):wpAny M A (noteFrame (.ref e) env) Q E s:=by
 rcases x with⟨rfl,oe,vs,he,hd,g⟩|⟨T,rfl,oe,vs,K,N,he,hd,g,hne,hb,hT,c,y⟩
 ·unfold noteFrame;simp only[hf];refine zX5 (z65 he hd g ?_);rw[if_neg (by decide)];exact dF f n hf he j k hd (z63.mp g).1 h
 ·unfold noteFrame;simp only[hf];refine zX5 (z65 he hd g ?_);rw[if_pos (show(Value.ref T != Value.none)=true from by simp)];refine zX5 (z65 hT c y ?_);rw[if_neg (show ¬((Value.none == rawInt L)=true)from by simp[rawInt])];refine zX5 (wpAny_setField hT c (z63.mp y).1 ?_);have u:∀b∈frs (env::outer),b≠T:=λb a z=>by
   obtain⟨_,o,w,hn⟩:=tP n a;rw[z,hT]at w;cases w;exact hn _ c
  have l:Moved (frs (env::outer)) e [T] s.heap (s.heap.update T (Obj.mapFields (·.setIfInBounds 3 Value.none))):=qB hT c u;refine dF (s:={s with heap:=s.heap.update T (Obj.mapFields (·.setIfInBounds 3 Value.none))}) f ?_ hf (show(s.heap.update T (Obj.mapFields (·.setIfInBounds 3 Value.none))).get? e=some oe by rw[zZ2 _ _ hne];exact he) ?_ k hd (z63.mp g).1 λh' B m1 m2 m3 m4 m5=>?_
  ·refine n.of_keeps λb o a hn=>⟨o,?_,rfl⟩;rw[zZ2 _ _ (λz=>by subst z;rw[hT]at a;cases a;exact hn _ c)];exact a
  ·intro b o q;show(s.heap.update T _).get? b=some o;rw[zZ2 _ _ (λz=>by subst z;rw[hb]at q;cases q)];exact j b o q
  ·refine h h' B ⟨λb o i D C q=>m1.keep b o i (by simp) C (l.keep b o i D C q),λb o i q=>?_,λo vs' q d=>?_,λb o q=>?_⟩ (by have m2:(s.heap.update T _).objs.size<=B:=m2;simpa using m2) m3 m4 m5
   ·obtain⟨sl,e1⟩:=l.slot b o i q;obtain⟨t,p⟩:=m1.slot b _ i e1;exact⟨t,p⟩
   ·obtain⟨v,m,e1,H,I,f1⟩:=l.exc o vs' q d;obtain⟨F,r,p,G,J,f2⟩:=m1.exc v m e1 f1;exact⟨F,r,p,G.trans H,J.trans I,f2⟩
   ·obtain⟨v,e1⟩:=l.there b o q;exact m1.there b v e1
theorem zd7 {base:Heap}{env:Env}{L e T:Addr}{Q:Unit->Shared->Prop}(hf:env.frame=some L)(x:Ent s.heap base e T (rawInt L))(h:Q () s):wpAny M A (noteFrame (.ref e) env) Q E s:=by
 obtain⟨oe,vs,f,d,he,hd,b,hne,hb,hT,a,c⟩:=x;exact wpAny_noteFrame_inFlight hf he hd b hT a c h
end
section
variable {P:Program}{w:World}{H H0:Hp}{h h' h0:Heap}{fs fs' ts:List Addr}{e:Addr}
theorem HOk.moved (x:HOk P w H h)(m:Moved fs e ts h h')(f:∀b∈fs,H b=none)(c:∀b∈ts,H b=none)(he:∃C d,H e=some (xcO e C d)):HOk P w H h':=λa o q=>by
 obtain⟨C,d,he⟩:=he;by_cases z:a=e
 ·subst z;rw[he]at q;cases q;obtain⟨⟨o,vs,j,g,k,i⟩,_,st⟩:=x _ _ he;obtain⟨o',vs',g1,g2,g3,l⟩:=m.exc o vs j i;exact⟨⟨o',vs',g1,g2.trans g,g3.trans k,l⟩,⟨o',g1⟩,st⟩
 ·have nf:∀{b:Addr} {u:HO},H b=some u->b∉fs:=λ{b u} hb q=>by rw[f b q]at hb;cases hb
  have nt:∀{b:Addr} {u:HO},H b=some u->b∉ts:=λ{b u} hb q=>by rw[c b q]at hb;cases hb
  refine(x a o q).stay (λb u hb e1=>?_) (λ_ q=>q) λ_ _ q=>q;rcases hb with rfl|hb
  ·exact m.keep _ _ z (nt q) (nf q) e1
  ·refine m.keep _ _ (λz=>?_) (nt hb) (nf hb) e1;rw[z,he]at hb;cases hb
end
def CX1 (P:Program)(w:World)(base:Heap):CXT:=λouter H s E e s'=>∃a T H',e=.ref a/\s'.os=s.os/\AllBare s'.gens/\Un (frs outer) [] H H' s.heap s'.heap/\HOk P w H' s'.heap/\(∃C d,H' a=some (xcO a C d))/\H' T=none/\s.heap.get? T=none/\Ent s'.heap base a T .none/\E (.ref a) none H'
inductive Fl (X:Cx)(H:Hp)(h:Heap)(a:Addr):Prop where
 |new {oe:Obj}{vs:Array Value}:h.get? a=some oe->oe.data=.fields vs->vs[1]?=some .none->Fl X H h a
 |old {T:Addr}:H T=none->X.s₀.heap.get? T=none->(∀p∈X.pn,p.1≠T)->Ent h X.base a T .none->Fl X H h a
 |here {T:Addr}:H T=none->X.s₀.heap.get? T=none->(∀p∈X.pn,p.1≠T)->Ent h X.base a T (rawInt X.env.locals)->Fl X H h a
def XE (X:Cx)(R:St->Addr->Hp->Prop):Value->Shared->Prop:=λe s=>∃σ H a,e=.ref a/\Inv X [] σ H s/\(∃C d,H a=some (xcO a C d))/\Fl X H s.heap a/\R σ a H
section
variable {X:Cx}{pins:List (Addr×Obj)}{σ:St}{H H':Hp}{s s':Shared}{a:Addr}
theorem Inv.nopins (I:Inv X pins σ H s):Inv X [] σ H s:=I.pins_of λp b=>by cases b
theorem Inv.basex (I:Inv X pins σ H s)(h:H a≠none):X.base.get? a=none:=by
 cases q:X.base.get? a with
 |none=>rfl
 |some o=>exact absurd (I.bs a o q).2 h
theorem Inv.moved {ts:List Addr}{h':Heap}(I:Inv X pins σ H s)(j:X.stack=X.env::X.outer)(m:Moved (frs X.stack) a ts s.heap h')(ha:∃C d,H a=some (xcO a C d))(g:∀T∈ts,H T=none/\X.s₀.heap.get? T=none/\(∀p∈X.pn++pins,p.1≠T)/\∃o vs,s.heap.get? T=some o/\o.data=.fields vs):Inv X pins σ H {s with heap:=h'}:=by
 have h:H a≠none:=by obtain⟨C,d,z⟩:=ha;rw[z];simp
 have hf:X.env.frame=some X.env.locals:=by
  rcases I.ok.stk with z|⟨_,z⟩
  ·rw[j]at z;exact absurd (congrArg List.length z) (by simp)
  ·exact z
 have mem:∀b∈frs X.stack,b=X.env.locals\/b∈X.fs:=λb hb=>by
  rw[j]at hb;unfold frs at hb;rw[List.filterMap_cons_some hf]at hb;rcases zY4.mp hb with z|z
  ·exact .inl z
  ·exact .inr z
 have dat:∀{b:Addr} {o:Obj},s.heap.get? b=some o->(∀vs,o.data≠.fields vs)->b∉ts:=λ{b o} q n z=>by
  obtain⟨_,_,_,o',vs,G,d⟩:=g b z;rw[q]at G;cases G;exact n vs d
 obtain⟨K,hn,O⟩:=id I.loc;obtain⟨Q,N,M,y,E,B⟩:=id hn;have A:∃sl,h'.get? X.env.locals=some {Q with slots:=sl}:=m.slot _ _ (by rw[j];unfold frs;rw[List.filterMap_cons_some hf];exact zY9) y;have F:h'.Ns X.env.locals K:=by obtain⟨sl,z⟩:=A;exact⟨_,N,M,z,E,B⟩
 have cells:∀{x:Str} {c:Addr} {v:Option Value},X.env.cells.lookup x=some c->s.heap.IsCell c v->h'.IsCell c v:=λ{x c v} e t=>by
  obtain⟨oc,l,hd⟩:=t;by_cases z:c∈frs X.stack
  ·obtain⟨sl,L⟩:=m.slot c oc z l;exact⟨_,L,hd⟩
  ·exact⟨oc,m.keep c oc (λz=>h (z▸I.freeC x c e)) (dat l λvs q=>by rw[hd]at q;cases q) z l,hd⟩
 have un:Un X.fs X.ex X.H₀ H X.s₀.heap h':=by
  have u:=I.base;have ne:∀{b:Addr} {o:Obj},X.s₀.heap.get? b=some o->X.H₀ b=none->b∉X.ex->b≠a:=λ{b o} q n f z=>h (z▸u.free b o q n f);have nt:∀{b:Addr} {o:Obj},X.s₀.heap.get? b=some o->b∉ts:=λ{b o} q z=>by rw[(g b z).2.1]at q;cases q
  have nl:∀{b:Addr} {o:Obj},X.s₀.heap.get? b=some o->b≠X.env.locals:=λ{b o} q=>zZ7 (zX8 (zY5 q) I.ok.above);refine⟨λb o q n hb f=>m.keep b o (ne q n f) (nt q) (λz=>(mem b z).elim (nl q) hb) (u.keep b o q n hb f),λb o q n hb f=>?_,u.free,λb o q f=>?_,u.tups,u.frzs,u.tbls⟩
  ·obtain⟨sl,e1⟩:=u.slot b o q n hb f;by_cases z:b∈frs X.stack
   ·obtain⟨D,w⟩:=m.slot b _ z e1;exact⟨D,w⟩
   ·exact⟨sl,m.keep b _ (ne q n f) (nt q) z e1⟩
  ·obtain⟨o',e1⟩:=u.there b o q f;exact m.there b o' e1
 refine⟨I.ok,I.os,I.bare,un,⟨K,F,λi x v e1 w P=>?_⟩,λx c e=>?_,I.free,I.freeC,λp J=>?_,I.hok.moved m I.stkFree (λb hb=>(g b hb).1) ha,I.len⟩
 ·obtain⟨u,r,q⟩:=O i x v e1 w P;refine⟨u,r,?_⟩;rcases q with q|⟨k,c,e,z⟩
  ·exact .inl q
  ·exact .inr ⟨k,c,e,cells e z⟩
 ·obtain⟨v,z⟩:=I.cell x c e;exact⟨v,cells e z⟩
 ·obtain⟨e,n,ne,nf,d⟩:=I.pin p J;exact⟨m.keep _ _ (λz=>h (z▸n)) (λz=>(g _ z).2.2.1 p J rfl) (λz=>(mem _ z).elim ne nf) e,n,ne,nf,d⟩
theorem Fl.beg (f:Fl X H s.heap a):(∃ts,Beg s.heap X.base a ts/\∀T∈ts,H T=none/\X.s₀.heap.get? T=none/\(∀p∈X.pn,p.1≠T)/\∃o vs,s.heap.get? T=some o/\o.data=.fields vs)\/∃T,H T=none/\X.s₀.heap.get? T=none/\(∀p∈X.pn,p.1≠T)/\Ent s.heap X.base a T (rawInt X.env.locals):=by
 cases f with
 |new d b c=>exact .inl ⟨[],.inl ⟨rfl,_,_,d,b,c⟩,λT hT=>by cases hT⟩
 |@old T d b c h4=>
  refine .inl ⟨[T],.inr ⟨T,rfl,h4⟩,λi hT=>?_⟩;rw[zY2]at hT;subst hT;obtain⟨_,_,h,g,_,_,_,_,_,hT,e,_⟩:=h4;exact⟨d,b,c,h,g,hT,e⟩
 |@here T d b c h4=>exact .inr ⟨T,d,b,c,h4⟩
theorem Inv.stkf (I:Inv X pins σ H s)(b:X.stack=X.env::X.outer):X.env.frame=some X.env.locals:=by
 rcases I.ok.stk with z|⟨_,z⟩
 ·rw[b]at z;exact absurd (congrArg List.length z) (by simp)
 ·exact z
theorem Inv.stays (I:Inv X pins σ H s):X.base.StaysIn s.heap:=I.bk
theorem Inv.note {M:Model}{Q:Unit->Shared->Prop}{E:Value->Shared->Prop}(I:Inv X [] σ H s)(b:X.stack=X.env::X.outer)(ha:∃C d,H a=some (xcO a C d))(f:Fl X H s.heap a)
  (h:∀h' T,Inv X [] σ H {s with heap:=h'}->H T=none->X.s₀.heap.get? T=none->(∀p∈X.pn,p.1≠T)->Ent h' X.base a T (rawInt X.env.locals)->Q () {s with heap:=h'}):wpAny M X.A (noteFrame (.ref a) X.env) Q E s:=by
 have c:H a≠none:=by obtain⟨C,d,z⟩:=ha;rw[z];simp
 have hf:=I.stkf b;rcases f.beg with⟨ts,q,n⟩|⟨T,m,i,o,g⟩
 ·refine zK1 (by rw[<-b];exact I.ok.frames) (by rw[<-b];exact I.stack) hf I.stays (I.basex c) q λh' T m1 m2 m3 _ _=>?_;have r:Inv X [] σ H {s with heap:=h'}:=I.moved b (by rw[b];exact m1) ha λT hT=>by
   obtain⟨k,j,t,l⟩:=n T hT;exact⟨k,j,λp e=>t p (by simpa using e),l⟩
  refine h h' T r (I.hok.fresh m2) (yc5 (zY8 I.sz m2)) (λp e z=>?_) m3;have:=zY5 (I.pin p (by simpa using e)).1;rw[z]at this;exact absurd this (Nat.not_lt.mpr m2)
 ·exact zd7 hf g (by have:=h s.heap T I m i o g;exact this)
theorem Inv.flight {M:Model}{Q:Unit->Shared->Prop}{E:Value->Shared->Prop}{A:Around}{T:Addr}{fl:Value}{fo:Option Addr}(I:Inv X pins σ H s)(b:X.stack=X.env::X.outer)(ha:∃C d,H a=some (xcO a C d))(i:H T=none)(g:X.s₀.heap.get? T=none)(j:∀p∈X.pn++pins,p.1≠T)(x:Ent s.heap X.base a T fl)
  (h:∀h',Inv X pins σ H {s with heap:=h'}->Ent h' X.base a T (fo.elim .none λf=>rawInt f)->Q () {s with heap:=h'}):wpAny M A (setFlight (.ref a) fo) Q E s:=by
 refine zo9 (l:=X.stack) I.stack I.stays x λh' m1 m2 _ _ _=>h h' (I.moved b m1 ha λm hT=>?_) m2;rw[zY2]at hT;subst hT;obtain⟨_,_,k,e,_,_,_,_,_,hT,c,_⟩:=x;exact⟨i,g,j,k,e,hT,c⟩
theorem zp9 {R:St->Addr->Hp->Prop}{E:XK}{e:Value}(hex:X.ex=[])(I:Inv X pins σ H s)(h:CX1 X.prog X.w X.base X.stack H s E e s')(i:∀a H',E (.ref a) none H'->R σ a H'):XE X R e s':=by
 obtain⟨a,T,H',rfl,g,hg,u,hok,ha,f,d,j,c⟩:=h;have l:Inv X pins σ H' s':=I.call' (ch:=[]) g u hok hg λb hb=>by cases hb
 refine⟨σ,H',a,rfl,l.nopins,ha,.old f ?_ (λp k z=>?_) j,i a H' c⟩
 ·cases q:X.s₀.heap.get? T with
  |none=>rfl
  |some o=>
   exfalso
   obtain⟨o',e1⟩:=I.base.there T o q (by rw[hex];simp);rw[d]at e1;cases e1
 ·have:=(I.pin p (z41 _ k)).1;rw[z,d]at this;cases this
end
section
variable {X:Cx}{E':Value->Shared->Prop}
theorem PSs.wishx {st:List Stmt}{t:TS}(h:PSs (X.wish E') st t)(k:∀e s,E' e s->X.xe e s):PSs X st t:=λpins s σ H D I hw=>
 z26 (h pins s σ H D (I.wish _) hw) (λ_ _ q=>q.unwish) λe s z=>k e s z
end
section
variable {P:Program}{w:World}{K:PySem.W.Frag}{mg:Str->Option Value}{base:Heap}
theorem zh9 {N:List Str}{qual:Str}{scope:Scope}{f:Addr}{cd:Value}{A:Around}{outer:List Env}{s₀ s:Shared}{H₀:Hp}{E:XK}{e:Value}
  (h:XE (xp (CX1 P w base) P w K mg base N qual scope f cd A outer s₀ H₀ E) (λ_ a H=>E (.ref a) none H) e s):(xp (CX1 P w base) P w K mg base N qual scope f cd A outer s₀ H₀ E).xe e s:=by
 obtain⟨σ,H,a,rfl,I,ha,k,r⟩:=h;show wpAny _ _ (leaving _ _) _ _ _;unfold leaving;refine zX5 (I.note rfl ha k λh' T m g d l j=>?_);refine m.flight (fo:=none) rfl ha g d (by simpa using l) j λi b c=>?_;exact⟨a,T,H,rfl,b.os,b.bare,b.base,b.hok,ha,g,d,c,r⟩
theorem Fun.okX {x qual:Str}{st:Stmt}{f:Addr}{fd:FuncData}{N ps:List Str}{k:Nat}{sp:Sp}(F:Fun K x qual st f fd)(S:zI N ps (zd st))(len:∀vs H Q E,sp vs H Q E->vs.length=ps.length)
  (b:∀(cdv:Value) (A:Around) (outer:List Env) (s:Shared) (H:Hp) (vs:List V) (Q:VK) (E:XK),zG k (A.deeper (envOfC qual (zd st) s.heap.objs.size f cdv))->sp vs H Q E->
   ∃t,PSs ((xp (CX1 P w base) P w K mg base N qual (zd st) f cdv A outer s H E).wish (XE (xp (CX1 P w base) P w K mg base N qual (zd st) f cdv A outer s H E) λ_ a H=>E (.ref a) none H)) (zr st) t/\t {nx:=λ_ H'=>Q .non H',rt:=Q} (start N vs) H):yn P w K mg base (CX1 P w base) (k+1) f fd ps sp:=by
 obtain⟨oc,od,kV,doc,pm,an,cdv,ct,osl,rfl,g,d⟩:=F.ex;refine jW g d S len λA outer s H vs Q E hr c=>?_;obtain⟨t,h,q⟩:=b cdv A outer s H vs Q E hr c;exact⟨t,h.wishx λe s z=>zh9 z,q⟩
end
section
variable {prog:Program}{w:World}{A:Around}{E:Value->Shared->Prop}{h:Heap}{g:Array GenState}{d:Drawn}{t:Nat}{os:OsState}
variable {nm q:Str}{C N:Addr}{bs bm bmB:List Value}{hdct:Bool}{sn:List Str}{sub:List Value}{ab:Bool}{col:Option Bool}{dd:Option Addr}{k0 k1 k2 k3 k5:Option Value}{B Bn newId nid initId inN:String}{bmN:List Value}
abbrev rL (C t:Addr)(d:Option Addr):Obj:={cls:=.ref C,dict:=d,data:=.fields #[.ref t,.none,.none,.none,.bool false,.none]}
def xh (h:Heap)(C:Addr)(rest:List Value):Heap:=(h.push {cls:=.type "tuple",data:=.seq rest.toArray}).push (rL C h.objs.size none)
theorem jz (s:ExcBaseFacts Bn newId inN bmN)(k:bmB.contains (.type Bn)=true)(F:ExcBaseFacts B nid initId bmB)(T:OwnTail h bmB bm){v:Str->Option Value}{rest:List Value}{fI:Addr}{y:Obj}{Q:Fin->Shared->Prop}
  (j:h.get? C=some (excClassObj nm q C N bs bm hdct sn sub ab col dd k0 k1 k2 k3 k5 newId)) (hn:h.Ns N v) (hi:v "__init__"=some (.ref fI))
  (u:h.get? fI=some y) (p:y.cls=.type "function")
  (hq:wpAny (model prog w) A (call (.ref fI) (.ref (h.objs.size+1)::rest)) (λr s'=>r=.none/\Q (.done (.ret (.ref (h.objs.size+1)))) s') E ⟨xh h C rest,g,d,t,os⟩) (i:rest.length<=sizeLine):
  wpAny (model prog w) A (Builtin.«type.__call__» ⟨.ref C::rest,[]⟩) Q E ⟨h,g,d,t,os⟩:=by
 repeat (first|with_reducible refine z77 j ?_|with_reducible refine wpAny_madeBy_exc j ?_|wp_step)
 refine codeAny_call_builtin_code (ye8 _ s.quiet) (wpAny_check_new_subU s k T j ?_);refine codeAny_exc_new_subU s k F T j ?_ i;show wpAny _ _ _ _ _ ⟨xh h C rest,g,d,t,os⟩;have keep:∀b o,h.get? b=some o->(xh h C rest).get? b=some o:=λb o e=>zX6 _ (zX6 _ e);have a:=keep _ _ j;have c:=keep _ _ u;have f:(xh h C rest).Ns N v:=let⟨o,es,ep,e,r⟩:=hn;⟨o,es,ep,keep _ _ e,r⟩;have m:(xh h C rest).get? (h.objs.size+1)=some (rL C h.objs.size none):=by unfold xh;heap_get
 have n:(Value.ref C::bm).contains (.ref C)=true:=by simp
 have l:=T.keeps keep;unfold isInstance
 repeat (first|with_reducible refine z77 m ?_|(with_reducible refine wpAny_isSubtype_exc a ?_;rw[n])|wp_step)
 show wpAny _ _ (typeLookup (.ref C) _) _ _ _;refine wpAny_typeLookup_tail a f l F.mroIs F.init.lookup ?_;rw[hi];refine z34 (zX5 ?_);unfold bindSpecial;refine zX5 (yh6 (T:="function") ⟨_,c,p⟩ ?_);rw[if_pos (by decide)];refine zY3 (zX5 (z26 hq (λr s' hr=>?_) λ_ _ x=>x));obtain⟨rfl,z⟩:=hr
 wp_walk
 exact z
theorem zT1 (k:ExcBaseFacts Bn newId inN bmN)(e:bmB.contains (.type Bn)=true)(F:ExcBaseFacts B nid initId bmB)(T:OwnTail h bmB bm){j:Str->Option Value}{rest:List Value}{fI:Addr}{i:Obj}{Q:Value->Shared->Prop}
  (b:h.get? C=some (excClassObj nm q C N bs bm hdct sn sub ab col dd k0 k1 k2 k3 k5 newId)) (hn:h.Ns N j) (hi:j "__init__"=some (.ref fI))
  (f:h.get? fI=some i) (c:i.cls=.type "function")
  (hq:wpAny (model prog w) (A.under (.builtin "type.__call__" ⟨.ref C::rest,[]⟩)) (call (.ref fI) (.ref (h.objs.size+1)::rest)) (λr s'=>r=.none/\Q (.ref (h.objs.size+1)) s') E ⟨xh h C rest,g,d,t,os⟩) (a:rest.length<=sizeLine):
  wpAny (model prog w) A (call (.ref C) rest) Q E ⟨h,g,d,t,os⟩:=by
 have f1:=tc_lookup;have f2:=tc_bind (.ref C);have hT:(⟨h,g,d,t,os⟩:Shared).TypeIs (.ref C) "type":=⟨_,b,rfl⟩;refine yc7 (codeAny_of_tree ?_);show wpAny _ _ (callAny (.ref C) _) _ _ _
 repeat (any_goals (first|assumption|with_reducible refine z77 b ?_|wp_step))
 refine⟨rfl,?_⟩;exact codeAny_call_builtin_at (ye8 _ (by decide +kernel)) entry_typeCall (wpAny_check_type_call_sub b (jz k e F T b hn hi f c hq a))
theorem zG3 {M:Model}{s:Shared}{env:Env}{x:Sem Value}{Q:Flow->Shared->Prop}(b:bm.contains (.type "BaseException")=true)(k:A.handled=none)
  (h:wpAny M A x (λv a=>∃e t d,v=.ref e/\a.heap.get? C=some (excClassObj nm q C N bs bm hdct sn sub ab col dd k0 k1 k2 k3 k5 newId)/\a.heap.get? e=some (rL C t d)/\E (.ref e) a) E s):
  wpAny M A (raiseStmt env (some x) none) Q E s:=by
 have f:(Value.ref C::bm).contains (.type "BaseException")=true:=by rw[List.contains_cons,b,Bool.or_true]
 unfold raiseStmt;refine zX5 (z26 h (λv a c=>?_) λ_ _ x=>x);obtain⟨e,t,d,rfl,i,he,j⟩:=c;obtain⟨l,g,d,tk,os⟩:=a
 repeat (first|with_reducible refine z77 he ?_|with_reducible refine z77 i ?_|(with_reducible refine wpAny_isSubtype_exc i ?_;rw[f])|wp_step)
 exact wpAny_raiseNew_none k j
end
open Builtin Builtin.ObjectAttr
def bmV :List Value:=[.type "ValueError",.type "Exception",.type "BaseException",.type "object"]
def vm (K:Frag)(C S:Addr)(init:Option Value):Bool:=match K.lookup C with
 |some ⟨.type "type",_,.cls cd,sl⟩=>(match sl.toList with
  |[_,_,_,_,some (.builtin n),_]=>cd.mro == .ref C::.ref S::bmV&&n == "ValueError.__new__"&&!cd.hasDel&&cd.hasDict&&tailIn K bmV (.ref S::bmV)&&nsOkIn K cd.ns&&nsIn K cd.ns "__init__" == some init
  |_=>false)
 |_=>false
theorem zb7 {K:Frag}{h:Heap}{N:Addr}{mg:Str->Option Value}{n:Str}{v:Option Value}(X:K.In h)(G:h.Ns N mg)(e:nsIn K N n=some v):mg n=v:=by
 cases v with
 |none=>exact ns_none_of X G e
 |some v=>
  obtain⟨o,i,g,a,hd,_,hf⟩:=G;unfold nsIn at e;split at e
  ·rename_i c d b j sl q;have:=X _ _ q;rw[a]at this;cases this;cases hd;split at e
   ·rename_i f he;cases e;rw[<-hf];unfold nsFind findBy;rw[<-Array.find?_toList,he];rfl
   ·split at e<;>cases e
  ·cases e
theorem rG {K:Frag}{h:Heap}{C S:Addr}{init:Option Value}(X:K.In h)(q:vm K C S init=true):
  ∃nm d N bs sn sub ab col dd k0 k1 k2 k3 k5 g,h.get? C=some (excClassObj nm d C N bs (.ref S::bmV) true sn sub ab col dd k0 k1 k2 k3 k5 "ValueError.__new__")/\h.Ns N g/\g "__init__"=init/\OwnTail h bmV (.ref S::bmV)/\∃cd,clsIn K C=some cd/\cd.hasDict=true/\cd.mro=.ref C::.ref S::bmV/\K.lookup C=some (excClassObj nm d C N bs (.ref S::bmV) true sn sub ab col dd k0 k1 k2 k3 k5 "ValueError.__new__"):=by
 unfold vm at q;split at q
 ·rename_i dd cd sl e;split at q
  ·rename_i k0 k1 k2 k3 n k5 i;simp only[z21,yc6,z90]at q;obtain⟨⟨⟨⟨⟨⟨hm,hn⟩,a⟩,c⟩,j⟩,hok⟩,b⟩:=q;obtain⟨nm,bs,mro,ns,d,hd,sn,sub,ab,col,del⟩:=cd;dsimp only at hm a hok b c;subst hm a hn c;have f:sl=#[k0,k1,k2,k3,some (.builtin "ValueError.__new__"),k5]:=by
    obtain⟨l⟩:=sl;simp only at i;rw[i]
   subst f;have N:=Heap.Ns.of_isNs (isNs_of_in X hok);exact⟨nm,d,ns,bs,sn,sub,ab,col,dd,k0,k1,k2,k3,k5,_,X _ _ e,N,zb7 X N b,tail_of_in X j,_,by unfold clsIn;rw[e],rfl,rfl,e⟩
  ·cases q
 ·cases q
section
variable {prog:Program}{w:World}{A:Around}{E:Value->Shared->Prop}{h:Heap}{g:Array GenState}{d:Drawn}{t:Nat}{os:OsState}{K:Frag}{C S e t0:Addr}{dx:Option Addr}{init:Option Value}
theorem zx9 {a:Obj}(he:h.get? e=some a)(b:a.cls=.ref C)(hd:∃vs,a.data=.fields vs){od:Option Obj}(hdx:match a.dict,od with
  |some dx,some o=>h.get? dx=some o
  |none,none=>True
  |_,_=>False):InstAt h e a C od:=⟨he,b,by obtain⟨vs,hd⟩:=hd;unfold notCls;rw[hd],hdx⟩
end
structure XC (K:Frag)(C S:Addr)(init:Option Value):Prop where
 ok:vm K C S init=true
 sa:findIn K (.ref C) "__setattr__"=some (some (.builtin "object.__setattr__"))
 ga:findIn K (.ref C) "__getattribute__"=some (some (.builtin "BaseException.__getattribute__"))
 gt:findIn K (.ref C) "__getattr__"=some none
 cl:findIn K (.ref C) "__class__"=some (some (.builtin "object.__class__"))
 cg:specialIn K (.builtin "object.__class__") "__get__"=some (some (.builtin "getset_descriptor.__get__"))
 ct:takesIn K (.builtin "object.__class__")=some true
section
variable {prog:Program}{w:World}{A:Around}{E:Value->Shared->Prop}{h:Heap}{g:Array GenState}{d:Drawn}{t:Nat}{os:OsState}{K:Frag}{C S e t0:Addr}{init:Option Value}
structure XB (K:Frag)(C B:Addr):Prop where
 ty:typeIn K (.ref B)=some (.type "type")
 be:mroIn K B (.type "BaseException")=some true
 sub:mroIn K C (.ref B)=some true
theorem zC0 {B:Addr}{m:Obj}{od:Option Obj}{Q:Bool->Shared->Prop}(X:K.In h)(b:XB K C B)(I:InstAt h e m C od)(hq:Q true ⟨h,g,d,t,os⟩):wpAny (model prog w) A (excMatches (.ref e) (.ref B)) Q E ⟨h,g,d,t,os⟩:=by
 have l1:Looks (model prog w) h (isType (.ref B)) true:=by
  obtain⟨cd,a,_⟩:=Option.bind_eq_some_iff.mp b.be;unfold clsIn at a;split at a
  ·rename_i c' d' j i f;intro n o p s' k q;unfold isType loadHead;exact zX5 (wpAny_loadPart (k _ _ (X _ _ f)) (zY3 q))
  ·cases a
 have l2:Looks (model prog w) h (isExcClass (.ref B)) true:=l1.andThen (by rw[if_pos rfl];exact looks_mroIn X b.be);have l3:Looks (model prog w) h (isInstance (.ref B) (.type "tuple")) false:=(looks_typeIn X b.ty).andThen (Looks.of_pure tc_notTuple);have c:=looks_mroIn (M:=model prog w) X b.sub;have l:=I.type (M:=model prog w);unfold excMatches;refine zX5 (l3.at ?_);rw[if_neg (by decide)];refine zX5 (zY3 ?_);simp only[yd6,yi2];refine zX5 (zX5 (zX5 (l2.at ?_)));refine zY3 (zY3 (zX5 (l.at (zX5 (zX5 (zX5 (c.at ?_)))))));exact zY3 (zY3 (zY3 hq))
end
def xcF (a C:Addr)(d:Option Addr):HO:=.ext λh=>∃t,h.get? a=some (rL C t d)
section
variable {X:Cx}{pins:List (Addr×Obj)}{σ:St}{H:Hp}{s:Shared}{a C:Addr}{d:Option Addr}{pos:Pos}
theorem zA1 {P:Program}{w:World}{H':Hp}{h:Heap}{t:Addr}(e:h.get? a=some (rL C t d)):zA P w H' h a (xcF a C d):=⟨⟨t,e⟩,⟨_,e⟩,λ_ _ b k=>by obtain⟨t,e⟩:=b;exact⟨t,k _ e⟩⟩
theorem Inv.xat (I:Inv X pins σ H s)(e:H a=some (xcF a C d)):∃t,s.heap.get? a=some (rL C t d):=(I.hok a _ e).1
theorem Inv.xthaw (I:Inv X pins σ H s)(e:H a=some (xcF a C d)):Inv X pins σ (upd H a (xcO a C d)) s:=by
 obtain⟨t,h⟩:=I.xat e;have:=I.write (x:=a) (e:=a) (o:=xcO a C d) (h':=s.heap) (t':=s.toks) (by rw[e];exact True.intro) (.inl rfl) (λ_ _ _ q=>q) ⟨_,h⟩ ⟨⟨_,_,h,rfl,rfl,rfl⟩,⟨_,h⟩,λ_ _ b k=>by obtain⟨o,vs,f,c⟩:=b;exact⟨o,vs,k _ f,c⟩⟩;exact this
end
section
variable {prog:Program}{w:World}{A:Around}{E:Value->Shared->Prop}{h:Heap}{g:Array GenState}{d:Drawn}{t:Nat}{os:OsState}
variable {nm q:Str}{C N:Addr}{bs bm bmB:List Value}{hdct:Bool}{sn:List Str}{sub:List Value}{ab:Bool}{col:Option Bool}{dd:Option Addr}{k0 k1 k2 k3 k5:Option Value}{B Bn newId nid initId inN:String}{bmN:List Value}
theorem nB (p:ExcBaseFacts Bn newId inN bmN)(l:bmB.contains (.type Bn)=true)(F:ExcBaseFacts B nid initId bmB)(T:OwnTail h bmB bm){s:Str->Option Value}{rest:List Value}{Q:Fin->Shared->Prop}
  (k:h.get? C=some (excClassObj nm q C N bs bm hdct sn sub ab col dd k0 k1 k2 k3 k5 newId)) (hn:h.Ns N s) (n:s "__init__"=none)
  (hq:∀h' t',(∀b o,h.get? b=some o->h'.get? b=some o)->h'.get? (h.objs.size+1)=some (rL C t' none)->Q (.done (.ret (.ref (h.objs.size+1)))) ⟨h',g,d,t,os⟩) (j:rest.length<=sizeLine):
  wpAny (model prog w) A (Builtin.«type.__call__» ⟨.ref C::rest,[]⟩) Q E ⟨h,g,d,t,os⟩:=by
 repeat (first|with_reducible refine z77 k ?_|with_reducible refine wpAny_madeBy_exc k ?_|wp_step)
 refine codeAny_call_builtin_code (ye8 _ p.quiet) (wpAny_check_new_subU p l T k ?_);refine codeAny_exc_new_subU p l F T k ?_ j;show wpAny _ _ _ _ _ ⟨xh h C rest,g,d,t,os⟩;have keep:∀b o,h.get? b=some o->(xh h C rest).get? b=some o:=λb o e=>zX6 _ (zX6 _ e);have a:=keep _ _ k;have i:(xh h C rest).Ns N s:=let⟨o,es,ep,e,r⟩:=hn;⟨o,es,ep,keep _ _ e,r⟩;have c:(xh h C rest).get? (h.objs.size+1)=some (rL C h.objs.size none):=by unfold xh;heap_get
 have m:(Value.ref C::bm).contains (.ref C)=true:=by simp
 have f:=T.keeps keep;unfold isInstance
 repeat (first|with_reducible refine z77 c ?_|(with_reducible refine wpAny_isSubtype_exc a ?_;rw[m])|wp_step)
 show wpAny _ _ (typeLookup (.ref C) _) _ _ _;refine wpAny_typeLookup_tail a i f F.mroIs F.init.lookup ?_;rw[n];refine z34 (zX5 (wpAny_of_eq (F.init.bind _) ?_));refine zX5 (yc7 (codeAny_call_builtin F.init.plain F.initEntry (wpAny_check_init_subU F f a c rfl ?_)))
 wp_walk
 refine hq _ (xh h C rest).objs.size (λb o hb=>?_) ?_
 ·rw[zZ2 _ _ (z71 (z89 (zY5 hb)))];exact zX6 _ (keep _ _ hb)
 ·rw[z48 _ (zX6 _ c) rfl];rfl
theorem zA4 (j:ExcBaseFacts Bn newId inN bmN)(f:bmB.contains (.type Bn)=true)(F:ExcBaseFacts B nid initId bmB)(T:OwnTail h bmB bm){i:Str->Option Value}{rest:List Value}{Q:Value->Shared->Prop}
  (c:h.get? C=some (excClassObj nm q C N bs bm hdct sn sub ab col dd k0 k1 k2 k3 k5 newId)) (hn:h.Ns N i) (e:i "__init__"=none)
  (hq:∀h' t',(∀b o,h.get? b=some o->h'.get? b=some o)->h'.get? (h.objs.size+1)=some (rL C t' none)->Q (.ref (h.objs.size+1)) ⟨h',g,d,t,os⟩) (a:rest.length<=sizeLine):
  wpAny (model prog w) A (call (.ref C) rest) Q E ⟨h,g,d,t,os⟩:=by
 have f1:=tc_lookup;have f2:=tc_bind (.ref C);have hT:(⟨h,g,d,t,os⟩:Shared).TypeIs (.ref C) "type":=⟨_,c,rfl⟩;refine yc7 (codeAny_of_tree ?_);show wpAny _ _ (callAny (.ref C) _) _ _ _
 repeat (any_goals (first|assumption|with_reducible refine z77 c ?_|wp_step))
 refine⟨rfl,?_⟩;exact codeAny_call_builtin_at (ye8 _ (by decide +kernel)) entry_typeCall (wpAny_check_type_call_sub c (nB j f F T c hn e hq a))
end
section
variable {X:Cx}{pins:List (Addr×Obj)}{σ:St}{H:Hp}{s:Shared}{k:Nat}{f C S:Addr}{fd:FuncData}{ps:List Str}{sp:Sp}{x:Str}{p pos:Pos}{e:Expr}{es:List Expr}{t:TA}
theorem Inv.xmade {h':Heap}{t':Addr}(I:Inv X pins σ H s)(hk:∀b o,s.heap.get? b=some o->h'.get? b=some o)(he:h'.get? (s.heap.objs.size+1)=some (rL C t' none)):Inv X pins σ (upd H (s.heap.objs.size+1) (xcF (s.heap.objs.size+1) C none)) {s with heap:=h'}:=
 I.laid (t':=s.toks) hk (z64 _) (zA1 he)
theorem zQ3 (c:vm X.K C S (some (.ref f))=true)(z:PySem.W.typeIn X.K (.ref f)=some (.type "function"))(kp:PySem.W.keepIn X.K (.ref C)=true)(F:yn X.prog X.w X.K X.mg X.base CX0 k f fd ps sp)(hr:zG (k+1) X.A)(hg:Gl X x)(hm:X.mg x=some (.ref C))(hb:Binds X.K fd ps [])
  (ha:PA X (e::es) t) (D:(x == ("__debug__":Str))=false:=by decide) (he:starEach (e::es) X.env=(false,eval e X.env)::starEach es X.env:=by rfl) (hpl:(backTo pos (starEach es X.env)).any (·.1)=false:=by rfl):
  PE X (.Call (.Name x p) (e::es) [] pos) (λσ H Q=>t σ H λvs H1=>vs.length<=100/\∀a,H1 a=none->sp (.ref a::vs) (upd H1 a (xcF a C none)) (λv Y=>v=.non/\Q (.ref a) Y) E0):=by
 intro pins s σ H Q I h;refine z72 (xK I hg hm ?_ D);refine z96 (h₀:=X.base) I.ok.mod.kin kp (thn (ha pos pins s σ H _ I h) λus s1 n=>?_) he hpl;obtain⟨vs,H1,l,r,lv,q⟩:=n;refine⟨l.kIn,?_⟩;obtain⟨nm,qn,N,bs,sn,sub,ab,col,dd,k0,k1,k2,k3,k5,mN,U,Z,hi,T,_⟩:=rG l.kIn c;obtain⟨oI,L,J⟩:=zZ6.mp z;have E:=l.kIn _ _ L;have O:=r.length;have hq:=q (s1.heap.objs.size+1) (l.hok.fresh (z64 _));obtain⟨h0,g,d,tk,os⟩:=s1;refine zT1 z85 (by decide +kernel) z85 T U Z hi E J ?_ (by show us.length<=_;rw[z29];exact zv4 O lv);have keep:∀b o,h0.get? b=some o->(xh h0 C us).get? b=some o:=λb o e=>zX6 _ (zX6 _ e);have m:(xh h0 C us).get? (h0.objs.size+1)=some (rL C h0.objs.size none):=by unfold xh;heap_get
 have y:=l.xmade (h':=xh h0 C us) keep m;have G:Vals (V.ref (h0.objs.size+1)::vs) (Value.ref (h0.objs.size+1)::us):=.cons rfl r;have B:(Value.ref (h0.objs.size+1)::us++[]).length=ps.length:=by
  have e:=G.length;rw[F.len _ _ _ _ hq]at e;rw[z51];exact e.symm
 have j:=hb _ (Value.ref (h0.objs.size+1)::us) y.kIn B;rw[z51]at j;refine yc7 (yb9 (F.run _ X.stack _ _ ⟨Value.ref (h0.objs.size+1)::us,[]⟩ _ _ _ E0 (hr.make C us []) (y.env0.make C us []) j G hq) λr s' i=>?_);cases r with
 |error e=>exact(i:False).elim
 |ok fl=>
  cases fl with
  |ret u=>
   obtain⟨v,H',P,M,ev,R⟩:=y.after i;subst ev;exact⟨M,⟨V.ref (h0.objs.size+1),H',P,rfl,R⟩⟩
  |next=>exact False.elim i
  |brk=>exact False.elim i
  |cont=>exact False.elim i
theorem fk (c:vm X.K C S none=true)(kp:PySem.W.keepIn X.K (.ref C)=true)(hg:Gl X x)(hm:X.mg x=some (.ref C))
  (ha:PA X (e::es) t) (j:(x == ("__debug__":Str))=false:=by decide) (he:starEach (e::es) X.env=(false,eval e X.env)::starEach es X.env:=by rfl) (hpl:(backTo pos (starEach es X.env)).any (·.1)=false:=by rfl):
  PE X (.Call (.Name x p) (e::es) [] pos) (λσ H Q=>t σ H λvs H1=>vs.length<=100/\∀a,H1 a=none->Q (.ref a) (upd H1 a (xcF a C none))):=by
 intro pins s σ H Q I h;refine z72 (xK I hg hm ?_ j);refine z96 (h₀:=X.base) I.ok.mod.kin kp (thn (ha pos pins s σ H _ I h) λus s1 i=>?_) he hpl;obtain⟨vs,H1,b,r,lv,q⟩:=i;refine⟨b.kIn,?_⟩;obtain⟨nm,o,N,bs,sn,sub,ab,col,dd,k0,k1,k2,k3,k5,u,l,n,hi,T,_⟩:=rG b.kIn c;have m:=r.length;have hq:=q (s1.heap.objs.size+1) (b.hok.fresh (z64 _));obtain⟨h0,g,d,tk,os⟩:=s1;refine zA4 z85 (by decide +kernel) z85 T l n hi (λh' t' hk he=>?_) (by show us.length<=_;rw[z29];exact zv4 m lv);exact⟨.ref (h0.objs.size+1),_,b.xmade hk he,rfl,hq⟩
theorem aE {X0:Cx}{R:St->Addr->Hp->Prop}{i:TE}{init:Option Value}(c:vm X0.K C S init=true)(l:X0.calm=true)(he:PE (X0.wish (XE X0 R)) e i):
  PS (X0.wish (XE X0 R)) (.Raise (some e) none pos) (λD σ H=>i σ H λx H1=>∃a d,x=.ref a/\H1 a=some (xcF a C d)/\R σ a (upd H1 a (xcO a C d))):=by
 intro pins s σ H D I h;show wpAny _ _ (do standAt pos;raiseStmt X0.env (some (do let v <-eval e X0.env;standAt pos;pure v)) none) _ _ _;obtain⟨nm,m,N,bs,sn,sub,ab,col,dd,k0,k1,k2,k3,k5,y,u,w,hi,T,_,_,_,_,o⟩:=rG I.kIn c;refine zX5 (yd1 (zG3 (C:=C) (nm:=nm) (q:=m) (N:=N) (bs:=bs) (bm:=.ref S::bmV) (hdct:=true) (sn:=sn) (sub:=sub) (ab:=ab) (col:=col) (dd:=dd) (k0:=k0) (k1:=k1) (k2:=k2) (k3:=k3) (k5:=k5) (newId:="ValueError.__new__") (T.hasType z85.hasBase) (I.ok.hd l) (zX5 (thn (he pins s σ H _ I h) λv s1 g=>?_))));obtain⟨x,H1,b,n,a,d,ex,j,r⟩:=g;refine zX5 (yd1 (zY3 ?_));subst ex;obtain rfl:v=Value.ref a:=n;obtain⟨t',ha⟩:=b.xat j;exact⟨a,t',d,rfl,b.kIn _ _ o,ha,⟨σ,_,a,rfl,(b.xthaw j).unwish.nopins,⟨C,d,zf⟩,.new ha rfl rfl,r⟩⟩
end
abbrev Cx.held (X:Cx)(pins:List (Addr×Obj)):Cx:={X with pn:=X.pn++pins}
abbrev Cx.suite (X:Cx)(a:Addr):Cx:={X with A:=X.A.mark (some (.ref a)),calm:=false,xe:=λ_ _=>False}
section
variable {X:Cx}{pins:List (Addr×Obj)}{σ:St}{H:Hp}{s:Shared}{a:Addr}{D:Ends}{f:Flow}
theorem Inv.held (I:Inv X pins σ H s):Inv (X.held pins) [] σ H s:=
 ⟨⟨I.ok.mod,I.ok.kind,I.ok.glob,I.ok.blt,I.ok.above,I.ok.inj,I.ok.has,I.ok.cab,I.ok.hd,I.ok.frames,I.ok.stk,I.ok.exf,I.ok.bs,I.ok.bsz,I.ok.noex,I.ok.exfs,I.ok.funs,I.ok.frf⟩,I.os,I.bare,I.base,I.loc,I.cell,I.free,I.freeC,λp b=>I.pin p (by simpa using b),I.hok,I.len⟩
theorem Inv.unheld (I:Inv (X.held pins) [] σ H s):Inv X pins σ H s:=
 ⟨⟨I.ok.mod,I.ok.kind,I.ok.glob,I.ok.blt,I.ok.above,I.ok.inj,I.ok.has,I.ok.cab,I.ok.hd,I.ok.frames,I.ok.stk,I.ok.exf,I.ok.bs,I.ok.bsz,I.ok.noex,I.ok.exfs,I.ok.funs,I.ok.frf⟩,I.os,I.bare,I.base,I.loc,I.cell,I.free,I.freeC,λp b=>I.pin p (by simpa using b),I.hok,I.len⟩
theorem Inv.suite (I:Inv X pins σ H s):Inv (X.suite a) pins σ H s:=
 ⟨⟨I.ok.mod,I.ok.kind,I.ok.glob,I.ok.blt,I.ok.above,I.ok.inj,I.ok.has,I.ok.cab,(λz=>nomatch z),I.ok.frames,I.ok.stk,I.ok.exf,I.ok.bs,I.ok.bsz,I.ok.noex,I.ok.exfs,I.ok.funs,I.ok.frf⟩,I.os,I.bare,I.base,I.loc,I.cell,I.free,I.freeC,I.pin,I.hok,I.len⟩
theorem Inv.unsuite (J:Inv X [] σ H s){b:St}{H':Hp}{s':Shared}(I:Inv (X.suite a) pins b H' s'):Inv X pins b H' s':=
 ⟨J.ok,I.os,I.bare,I.base,I.loc,I.cell,I.free,I.freeC,I.pin,I.hok,I.len⟩
theorem SP.held {E:Value->Shared->Prop}(h:SP ((X.held pins).wish E) [] D f s):SP X pins D f s:=by
 cases f with
 |next=>obtain⟨b,H',I,q⟩:=h;exact⟨b,H',I.unwish.unheld,q⟩
 |brk=>obtain⟨b,H',I,q⟩:=h;exact⟨b,H',I.unwish.unheld,q⟩
 |cont=>obtain⟨b,H',I,q⟩:=h;exact⟨b,H',I.unwish.unheld,q⟩
 |ret u=>obtain⟨v,b,H',I,r,q⟩:=h;exact⟨v,b,H',I.unwish.unheld,r,q⟩
theorem Inv.caught {R:St->Addr->Hp->Prop}{i:Value->Shared->Prop}{Q:Flow->Shared->Prop}{e:Value}{q:List ExceptHandler}(g:X.stack=X.env::X.outer)(h:XE X R e s)
  (k:∀σ H a T s',Inv X [] σ H s'->(∃C d,H a=some (xcO a C d))->R σ a H->H T=none->X.s₀.heap.get? T=none->(∀p∈X.pn,p.1≠T)->Ent s'.heap X.base a T .none->wpAny (model X.prog X.w) X.A (handleBy (.ref a) X.env q) Q i s'):
  wpAny (model X.prog X.w) X.A (noteFrame e X.env) (λ_ b=>wpAny (model X.prog X.w) X.A (setFlight e none) (λ_ c=>wpAny (model X.prog X.w) X.A (handleBy e X.env q) Q i c) i b) i s:=by
 obtain⟨σ,H,a,rfl,I,ha,f,r⟩:=h;refine I.note g ha f λh' T v n m o u=>?_;refine v.flight (fo:=none) g ha n m (by simpa using o) u λt j l=>?_;exact k σ H a T _ j ha r n m o l
theorem zo1 {P:Program}{w:World}{h:Heap}{C:Addr}{d:Option Addr}(hok:HOk P w H h)(e:H a=some (xcO a C d))(hd:∀dx,d=some dx->∃fs,H dx=some (.xd fs)):∃k od,PySem.W.InstAt h a k C od/\od.isSome=d.isSome:=by
 obtain⟨⟨o,vs,g,b,i,c⟩,_⟩:=hok a _ e;cases d with
 |none=>exact⟨o,none,zx9 g b ⟨vs,c⟩ (by rw[i];trivial),rfl⟩
 |some dx=>
  obtain⟨fs,j⟩:=hd dx rfl;obtain⟨mA,⟨od,m,l,e1,_⟩,_⟩:=hok dx _ j;exact⟨o,some od,zx9 g b ⟨vs,c⟩ (by rw[i];exact e1),rfl⟩
end
section
variable {X:Cx}{body suite:List Stmt}{b0:Stmt}{x n:Str}{np hpos pos:Pos}{B:Addr}
def iR (K:PySem.W.Frag)(B:Addr)(R:St->Addr->Hp->Prop):Prop:=∀σ a H,R σ a H->∃C d,H a=some (xcO a C d)/\(∀dx,d=some dx->∃fs,H dx=some (.xd fs))/\XB K C B
theorem zD0 {R:St->Addr->Hp->Prop}(j:X.stack=X.env::X.outer)(hg:Gl X x)(hm:X.mg x=some (.ref B))(L:iR X.K B R)(l:(x == ("__debug__":Str))=false:=by decide):
  PS X (.Try body [.ExceptHandler (some (.Name x np)) none (b0::suite) hpos] [] [] pos) (λD σ H=>(∀pins,ja ((X.held pins).wish (XE (X.held pins) R)) body D σ H)/\
   ∀pins a b H',R b a H'->ja ((X.held pins).suite a) (b0::suite) D b H'):=by
 rintro pins s σ H D I ⟨p,y⟩;obtain⟨P,N,m⟩:=p pins;refine wpAny_Try_except (z26 (N [] s σ H D (I.held.wish _) m) (λf s1 hf=>?_) λe s1 G=>?_)
 ·have hf:=SP.held hf;cases f with
  |next=>exact yd5 hf
  |brk=>exact hf
  |cont=>exact hf
  |ret u=>exact hf
 ·refine Inv.caught (X:=X.held pins) j G λb H' a T s' k ha r t1 t2 t3 ent=>?_;obtain⟨C,d,A,hd,t⟩:=L b a H' r;refine wpAny_handleBy_cons (codeAny_handlers_test (xK (k.suite (a:=a)) hg hm ?_ l)) (by intro q;cases q);obtain⟨O,od,J,_⟩:=zo1 k.hok A hd;obtain⟨h',g',d',F,E⟩:=s';refine zC0 k.kIn t J (codeAny_handlers_suite ?_);refine k.flight (fo:=none) j ha t1 t2 (by simpa using t3) ent λM c _=>?_;obtain⟨ts,p2,o⟩:=y pins a b H' r;refine z26 (p2 [] _ _ H' _ c.suite o) (λf s3 hf=>?_) λ_ _ z=>(z:False).elim;cases f with
  |next=>
   obtain⟨g,H3,h,i⟩:=hf;exact⟨_,H3,(c.unsuite h).unheld,i⟩
  |brk=>
   obtain⟨g,H3,h,i⟩:=hf;exact⟨_,H3,(c.unsuite h).unheld,i⟩
  |cont=>
   obtain⟨g,H3,h,i⟩:=hf;exact⟨_,H3,(c.unsuite h).unheld,i⟩
  |ret u=>
   obtain⟨v,g,H3,h,w,i⟩:=hf;exact⟨v,_,H3,(c.unsuite h).unheld,w,i⟩
end
def xD (C:Addr)(fs:List (PyData×PyData)):PyData:=.dict ((.int (C:Nat),.bool true)::fs)
def xD0 (C:Addr):PyData:=.dict [(.int (C:Nat),.bool false)]
section
variable {G:Hp}{v:V}{C:Addr}{ds:List (PyData×PyData)}
theorem AV.xc_inv (h:AV G v (xD C ds)):∃a dx fs,v=.ref a/\G a=some (xcO a C (some dx))/\G dx=some (.xd fs)/\AVf G fs ds:=by
 generalize e:xD C ds=d at h;cases h with
 |@xc a C' dx fs ds' h1 h2 h3=>
  unfold xD at e;injection e with e;injection e with e1 b;injection e1 with e1 _;injection e1 with e1;have:C=C':=by exact_mod_cast e1
  subst this;subst b;exact⟨a,dx,fs,rfl,h1,h2,h3⟩
 |_=>simp[xD]at e
theorem AV.xn_inv (h:AV G v (xD0 C)):∃a,v=.ref a/\G a=some (xcO a C none):=by
 generalize e:xD0 C=d at h;cases h with
 |@xn a C' h1=>
  unfold xD0 at e;injection e with e;injection e with e1 b;injection e1 with e1 _;injection e1 with e1;have:C=C':=by exact_mod_cast e1
  subst this;exact⟨a,rfl,h1⟩
 |_=>simp[xD0]at e
end
def isX (C:Addr)(d:PyData):Prop:=(∃fs,d=xD C fs)\/d=xD0 C
theorem isX.at {G:Hp}{v:V}{C:Addr}{d:PyData}(x:isX C d)(h:AV G v d):∃a dx,v=.ref a/\G a=some (xcO a C dx)/\∀y,dx=some y->∃fs,G y=some (.xd fs):=by
 rcases x with⟨fs,rfl⟩|rfl
 ·obtain⟨a,dx,f,rfl,b,c,_⟩:=h.xc_inv;exact⟨a,some dx,rfl,b,λy e=>by cases e;exact⟨f,c⟩⟩
 ·obtain⟨a,rfl,b⟩:=h.xn_inv;exact⟨a,none,rfl,b,λy e=>by cases e⟩
theorem M.reidx {F:Fr}{α b:Ev}{σ g:St}{H:Hp}(m:M F α σ H)(f:Nat->Nat)(t:b.length=g.length)(hf:∀(k:Nat) a s,b[k]?=some (some a)->g[k]?=some s->α[f k]?=some (some a)/\σ[f k]?=some s)(inj:∀(k p:Nat) a a',b[k]?=some (some a)->b[p]?=some (some a')->f k=f p->k=p):M F b g H:=by
 have ow:∀{y:Addr},Ow F b g y->Ow F α σ y:=λ{y} h=>by
  rcases h with z|⟨i,c,s,e1,j,fo⟩
  ·exact .inl z
  ·obtain⟨g1,g2⟩:=hf i c s e1 j;exact .inr ⟨_,c,s,g1,g2,fo⟩
 have w:zw (Gz F α σ H) (Gz F b g H):=zm λa o h e=>⟨λz=>h (ow z),e⟩;refine⟨t,λi c s e1 j=>?_,λi n c d s s' x e1 j u v f1 f2=>?_,λi r q e n c s x e1 j fo=>?_,m.tp,m.keep,m.oex⟩
 ·obtain⟨g1,g2⟩:=hf i c s e1 j;exact(m.ok _ c s g1 g2).stay w (λx o fo e=>⟨e,(m.ft g1 g2 fo).1,(m.ft g1 g2 fo).2.1⟩) rfl λ_ _ _ l=>l
 ·obtain⟨g1,g2⟩:=hf i c s e1 u;obtain⟨k1,k2⟩:=hf n d s' j v;exact inj i n c d e1 j (m.dj _ _ c d s s' x g1 k1 g2 k2 f1 f2)
 ·have:i<g.length:=by rw[<-t];exact(zX9.mp e).1
  obtain⟨g1,_⟩:=hf i _ _ e (zY0 this);obtain⟨k1,k2⟩:=hf n c s e1 j;exact m.xd _ r q g1 _ c s x k1 k2 fo
theorem sD {β:Ev}{b:Option A}{k:Nat}{a:A}(h:(β++[b])[k]?=some (some a)):(k<β.length/\β[k]?=some (some a))\/(k=β.length/\b=some a):=by
 rcases z97 k β.length with z|z
 ·rw[z22 z]at h;exact .inl ⟨z,h⟩
 ·rw[z38 z]at h;obtain⟨j,c⟩:∃j,k-β.length=j:=⟨_,rfl⟩;rw[c]at h;cases j with
  |zero=>simp at h;exact .inr ⟨by lia,h⟩
  |succ j=>simp at h
section
variable {F:Fr}{α αh:Ev}{σ:St}{H:Hp}
theorem M.grow (m:M F α σ H):M F (α++[none]) (σ++[none]) H:=by
 have b:=m.len;refine m.reidx id (by rw[zZ9,zZ9,b];rfl) (λk a s e1 c=>?_) λ_ _ _ _ _ _ e=>e;rcases sD e1 with⟨z,e⟩|⟨_,e⟩
 ·exact⟨e,by rw[z22 (zX8 z (zZ5 b))]at c;exact c⟩
 ·cases e
theorem M.snoc {v:V}{b:A}{H':Hp}(m:M F α σ H)(t:zD F H')(k:Kz F H H')(hn:∀x,foot (some v) b x->H x=none)(hok:vp (sub (λx=>¬Ow F α σ x/\¬foot (some v) b x) H') F H' (some v) b)(j:noX b:=by trivial):M F (α++[some b]) (σ++[some v]) H':=by
 have g:=m.len;have mg:=m.grow;have ow:∀{y:Addr},Ow F (α++[none]) (σ++[none]) y->Ow F α σ y:=λ{y} h=>by
  rcases h with z|⟨i,c,s,e1,d,fo⟩
  ·exact .inl z
  ·rcases sD e1 with⟨z,e⟩|⟨_,e⟩
   ·exact .inr ⟨i,c,s,e,by rw[z22 (zX8 z (zZ5 g))]at d;exact d,fo⟩
   ·cases e
 have m2:=mg.store (i:=α.length) (v:=v) (b:=b) t k hn (hok.stay (zm λa o h e=>⟨⟨λz=>h.1 (ow z),h.2⟩,e⟩) (λx o f e=>by
  obtain⟨p,n,_⟩:=tQ hok f;exact⟨e,p,n⟩) rfl λ_ _ _ l=>l) j
 have e1:(α++[none]).set α.length (some b)=α++[some b]:=by rw[yg9 _ _ (zY1 _),yc3]<;>rfl
 have d:(σ++[none]).set α.length (some v)=σ++[some v]:=by rw[yg9 _ _ (zZ5 g.symm),g,yc3]<;>rfl
 rw[e1,d]at m2;exact m2
theorem M.len' {b:Option A}{s:Option V}(m:M F (α++[b]) (σ++[s]) H):α.length=σ.length:=by
 have:=m.len;rw[zZ9,zZ9]at this;exact Nat.add_right_cancel this
theorem M.init {b:Option A}{s:Option V}(m:M F (α++[b]) (σ++[s]) H):M F α σ H:=by
 have c:=m.len';refine m.reidx id c (λk a t e1 d=>?_) λ_ _ _ _ _ _ e=>e;have hk:=(zX9.mp e1).1;exact⟨by show(α++[b])[k]?=_;rw[z22 hk];exact e1,by show(σ++[s])[k]?=_;rw[z22 (zX8 hk (zZ5 c))];exact d⟩
theorem zj3 {S:Addr->Prop}{G H:Hp}{x:Addr}{o:HO}(h:G x=some o)(a:¬S x)(hn:∀xs,o≠.lst xs):uM S G H x=some o:=by
 unfold uM;rw[if_neg a,h];cases o<;>first|rfl|exact absurd rfl (hn _)
theorem cy {S:Addr->Prop}{p:Addr->Prop}{H:Hp}{x:Addr}{o:HO}(h:uM S (sub p H) H x=some o):H x=some o:=by
 rcases nk h with⟨_,z⟩|⟨_,z⟩
 ·exact z
 ·exact(zb z).2
end
structure Xok (X:Cx)(r:Fr)(αh:Ev)(q:PyData->Prop):Prop where
 ex:∃(X0:Cx) (R:St->Addr->Hp->Prop),X=X0.wish (XE X0 R)/\X0.stack=X0.env::X0.outer/\X0.ex=[]/\∀σ d S a H',M r (αh++[some (.deep d S)]) (σ++[some (.ref a)]) H'->q d->R σ a H'
section
variable {F:Fr}{α αh:Ev}{σ:St}{H:Hp}
theorem M.exc {j:Nat}{q:PyData->Prop}(m:M F α σ H)(v:α[j]?=some none):M F (α.set j (some (.exc F q))) σ H:=by
 have d:∀{i:Nat} {c:A},(α.set j (some (.exc F q)))[i]?=some (some c)->(i=j/\c=.exc F q)\/α[i]?=some (some c):=λ{i c} e=>by
  rcases zz e with⟨rfl,z⟩|⟨_,t⟩
  ·cases z;exact .inl ⟨rfl,rfl⟩
  ·exact .inr t
 have ow:∀{y:Addr},Ow F (α.set j (some (.exc F q))) σ y->Ow F α σ y:=λ{y} h=>by
  rcases h with z|⟨i,c,s,e1,b,f⟩
  ·exact .inl z
  ·rcases d e1 with⟨_,rfl⟩|e1
   ·exact f.elim
   ·exact .inr ⟨i,c,s,e1,b,f⟩
 have r:zw (Gz F α σ H) (Gz F (α.set j (some (.exc F q))) σ H):=zm λa o h e=>⟨λz=>h (ow z),e⟩;refine⟨by rw[z31];exact m.len,λi c s e1 b=>?_,λi g c c' s s' x e1 b p k f1 f2=>?_,λi u n e g c s x e1 b f=>?_,m.tp,m.keep,m.oex⟩
 ·rcases d e1 with⟨_,rfl⟩|e1
  ·exact⟨rfl,λ_ z=>z,m.tp,m.keep⟩
  ·exact(m.ok i c s e1 b).stay r (λx o f e=>⟨e,(m.ft e1 b f).1,(m.ft e1 b f).2.1⟩) rfl λ_ _ _ l=>l
 ·rcases d e1 with⟨_,rfl⟩|e1
  ·exact f1.elim
  ·rcases d b with⟨_,rfl⟩|b
   ·exact f2.elim
   ·exact m.dj i g c c' s s' x e1 b p k f1 f2
 ·rcases d e1 with⟨_,rfl⟩|e1
  ·exact f.elim
  ·rcases d e with⟨_,z⟩|e
   ·cases z;exact(m.ft e1 b f).2.1
   ·exact m.xd i u n e g c s x e1 b f
theorem M.back {j:Nat}{r:Fr}{q:PyData->Prop}(m:M F α σ H)(g:α[j]?=some (some (.exc r q)))(w:αh.length=α.length)(le:∀(i:Nat) a,αh[i]?=some (some a)->α[i]?=some (some a)/\noX a):M r αh σ H:=by
 have l:=m.lnk g;have ow:∀{y:Addr},Ow r αh σ y->Ow F α σ y:=λ{y} h=>by
  rcases h with z|⟨i,c,s,e1,b,f⟩
  ·exact .inl (l.o y z)
  ·exact .inr ⟨i,c,s,(le _ _ e1).1,b,f⟩
 have u:zw (Gz F α σ H) (Gz r αh σ H):=zm λa o h e=>⟨λz=>h (ow z),e⟩;refine⟨w.trans m.len,λi c s e1 b=>?_,λi p c d s s' x e1 b=>m.dj i p c d s s' x (le _ _ e1).1 (le _ _ b).1,λi v t e=>((le _ _ e).2:False).elim,l.ok,l.k,λx n=>m.oex x (l.o x n)⟩;refine(m.ok i c s (le _ _ e1).1 b).stay u (λx o f e=>⟨e,λz=>(m.ft (le _ _ e1).1 b f).1 (l.o x z),m.xd j r q g i c s x (le _ _ e1).1 b f⟩) l.tp λv t z=>?_;subst z;exact((le _ _ e1).2:False).elim
end
def leX :Ev->Ev->Prop:=λαh α=>αh.length=α.length/\∀(i:Nat) a,αh[i]?=some (some a)->α[i]?=some (some a)/\noX a
theorem leX.nil {n:Nat}{α:Ev}(h:n=α.length):leX (List.replicate n none) α:=⟨by rw[yg8];exact h,λi a e=>by
 rw[z91]at e;split at e<;>cases e⟩
theorem leX.cons {x y:Option A}{αh α:Ev}(h:x=none\/(x=y/\∀a,x=some a->noX a))(r:leX αh α):leX (x::αh) (y::α):=⟨by rw[z00,z00,r.1],λi a e=>by
 cases i with
 |zero=>
  simp at e;rcases h with h|⟨c,b⟩
  ·rw[h]at e;cases e
  ·subst c;subst e;exact⟨rfl,b _ rfl⟩
 |succ i=>simpa using r.2 i a (by simpa using e)⟩
theorem leX.nil' :leX [] []:=⟨rfl,λi a e=>by simp at e⟩
theorem leX.snoc {αh α:Ev}{b:A}(h:leX αh α)(hb:noX b):leX (αh++[some b]) (α++[some b]):=⟨by rw[zZ9,zZ9,h.1],λi a e=>by
 rcases sD e with⟨z,e⟩|⟨z,e⟩
 ·rw[z22 (by rw[<-h.1];exact z)];exact h.2 i a e
 ·cases e;rw[z,h.1,z38 (zY1 _),yc3];exact⟨rfl,hb⟩⟩
theorem M.backS {F:Fr}{α αh:Ev}{σ:St}{H:Hp}{j:Nat}{r:Fr}{q:PyData->Prop}{b:A}{v:V}(m:M F (α++[some b]) (σ++[some v]) H)(c:α[j]?=some (some (.exc r q)))(le:leX αh α)(hb:noX b):M r (αh++[some b]) (σ++[some v]) H:=by
 have a:(α++[some b])[j]?=some (some (.exc r q)):=by rw[z22 (zX9.mp c).1];exact c
 exact m.back a (le.snoc hb).1 (le.snoc hb).2
theorem qH {r:Fr}{αh:Ev}{σ:St}{H':Hp}{d:PyData}{S:Addr->Prop}{a:Addr}(m:M r (αh++[some (.deep d S)]) (σ++[some (.ref a)]) H'):zb6 r (.ref a) H' (.deep d S):=by
 obtain⟨v,b,c,f⟩:=m.deep αh.length d S (by rw[z38 (zY1 _),yc3]<;>rfl);rw[m.len',z38 (zY1 _),yc3]at b;cases b;exact⟨c.same (uI (zm λa o h e=>⟨ow0 h,e⟩) λ_ _ _ e=>e),f⟩
def spX (φ:List A->(A->Prop)->(PyData->Prop)->Prop):Sp:=λvs H b E=>∃(F:Fr) (as:List A) (Q:A->Prop) (q:PyData->Prop),F.H0=H/\zD F H/\(∀x,F.O0 x->∃o,H x=some o/\wt o)/\zV F (sub (λx=>¬F.O0 x) H) vs as/\φ as Q q/\(∀a v H',Q a->wO F v H' a->b v H')/\∀d S a H',q d->wO F (.ref a) H' (.deep d S)->E (.ref a) none H'
section
variable {P:Program}{w:World}{K:PySem.W.Frag}{mg:Str->Option Value}{base:Heap}
theorem fnX {x qual:Str}{st:Stmt}{f:Addr}{fd:FuncData}{N ps:List Str}{z:Str}{k:Nat}{φ:List A->(A->Prop)->(PyData->Prop)->Prop}(G:Fun K x qual st f fd)(S:zI (N++[z]) ps (zd st))(D:ps.length<=N.length)(hlen:∀as Q q,φ as Q q->as.length=ps.length)
  (c:∀(cdv:Value) (g:Around) (outer:List Env) (s:Shared) (H:Hp) (E:XK) (as:List A) (Q:A->Prop) (q:PyData->Prop) (r:Fr) (xe:Value->Shared->Prop),zG k (g.deeper (envOfC qual (zd st) s.heap.objs.size f cdv))->φ as Q q->Xok ((xp (CX1 P w base) P w K mg base (N++[z]) qual (zd st) f cdv g outer s H E).wish xe) r (List.replicate (N.length+1) none) q->
   SvS ((xp (CX1 P w base) P w K mg base (N++[z]) qual (zd st) f cdv g outer s H E).wish xe) ((as.map some++List.replicate (N.length-as.length) none)++[some (.exc r λ_=>True)]) (zr st) {nx:=λ_=>Q (.dat .none),rt:=Q}):yn P w K mg base (CX1 P w base) (k+1) f fd ps (spX φ):=by
 refine G.okX S (λvs H Q E h=>?_) (λcdv g outer s H vs O E hr h=>?_)
 ·obtain⟨F,as,u,q,_,_,_,i,b,_⟩:=h;rw[i.length,hlen as _ _ b]
 ·obtain⟨F,as,u,q,e,t,o,i,b,n,J⟩:=h;have L:=hlen as _ _ b;have m:=M.start (N:=N++[z]) e t o i;have B:as.map some++List.replicate ((N++[z]).length-as.length) none=(as.map some++List.replicate (N.length-as.length) none)++[none]:=by rw[zZ9,yc0,show N.length+1-as.length=(N.length-as.length)+1 by omega,List.replicate_succ',List.append_assoc]
  rw[B]at m;have y:(as.map some++List.replicate (N.length-as.length) (none:Option A)).length=N.length:=by rw[zZ9,zX7,yg8];lia
  have p:=m.exc (j:=N.length) (q:=λ_=>True) (by rw[z38 (by lia),y,yc3]<;>rfl);have C:((as.map some++List.replicate (N.length-as.length) (none:Option A))++[none]).set N.length (some (A.exc F λ_=>True))=(as.map some++List.replicate (N.length-as.length) none)++[some (.exc F λ_=>True)]:=by rw[yg9 _ _ (by lia),y,yc3]<;>rfl
  rw[C]at p;refine c cdv g outer s H E as u q F _ hr b ⟨_,_,rfl,rfl,rfl,λσ d S a H' l I=>J d S a H' I ⟨l.tp,l.keep,qH l⟩⟩ F _ H _ p ⟨λα σ H' m q=>?_,λa v H' r q=>n a v H' q r,λ_ _ _ _ z=>z.elim,λ_ _ _ _ z=>z.elim⟩;exact n _ _ _ q ⟨m.tp,m.keep,.non⟩
end
structure zr4 (P:Program)(w:World)(K:PySem.W.Frag)(mg:Str->Option Value)(base:Heap)(x:Str)(k:Nat)(φ:List A->(A->Prop)->(PyData->Prop)->Prop):Prop where
 ex:∃f fd ps,mg x=some (.ref f)/\PySem.W.keepIn K (.ref f)=true/\Binds K fd ps []/\yn P w K mg base (CX1 P w base) k f fd ps (spX φ)
structure zC7 (K:PySem.W.Frag)(mg:Str->Option Value)(x:Str)(C:Addr):Prop where
 m:mg x=some (.ref C)
 kp:PySem.W.keepIn K (.ref C)=true
 ex:∃S,vm K C S none=true
section
variable {X:Cx}{α αh:Ev}{r:Fr}{q q0:PyData->Prop}{j k:Nat}{x fl:Str}{C:Addr}{e:Expr}{es:List Expr}{p pos pos':Pos}{rest:List Stmt}{E:yp}
theorem gj (s:Xok X r αh q)(l:X.calm=true)(f:zC7 X.K X.mg x C)(hg:Gl X x)(u:α[j]?=some (some (.exc r q0)))(le:leX αh α)(h:EvD X α e λ_=>q (xD0 C))
  (g:(x == ("__debug__":Str))=false:=by decide) (he:starEach [e] X.env=(false,eval e X.env)::starEach [] X.env:=by rfl):SvS X α (.Raise (some (.Call (.Name x p) [e] [] pos)) none pos'::rest) E:=λF σ H D m G=>by
 obtain⟨X0,R,rfl,A,B,t⟩:=s.ex;obtain⟨S,c⟩:=f.ex;refine⟨_,zy (aE c l (fk (X:=X0.wish (XE X0 R)) c f.kp hg f.m (zp zg zF he) g he)) zE,?_⟩;refine h F σ H _ m λd v H1 n t1 k1 w=>?_;refine⟨z56 rfl,λa ha=>⟨a,none,rfl,zf,?_⟩⟩;have m1:=m.kz k1 t1;rw[uh];have i:zw H1 (upd H1 a (xcO a C none)):=λy o e=>by rw[zc (λz=>by rw[z,ha]at e;cases e)];exact e
 have m3:=m1.snoc (v:=.ref a) (b:=.deep (xD0 C) λ_=>False) (H':=upd H1 a (xcO a C none)) (m1.tp.same i) (Kz.of_same i) (λx z=>z.elim) ⟨_,rfl,.xn (zj3 (zu ⟨m1.fresh ha,λz=>z⟩ zf) (λz=>z) λxs z=>by cases z),λx z=>z.elim⟩;exact t σ _ _ a _ (m3.backS u le trivial) n
theorem bF {X0:Cx}{R:St->Addr->Hp->Prop}{f:Addr}{fd:FuncData}{ps:List Str}{sp:Sp}{t:TA}(hex:X0.ex=[])(F:yn X0.prog X0.w X0.K X0.mg X0.base (CX1 X0.prog X0.w X0.base) k f fd ps sp)(hr:zG k X0.A)(hg:Gl X0 x)(hm:X0.mg x=some (.ref f))(hk:PySem.W.keepIn X0.K (.ref f)=true)(hb:Binds X0.K fd ps [])
  (ha:PA (X0.wish (XE X0 R)) (e::es) t) (g:(x == ("__debug__":Str))=false:=by decide) (he:starEach (e::es) X0.env=(false,eval e X0.env)::starEach es X0.env:=by rfl) (hpl:(backTo pos (starEach es X0.env)).any (·.1)=false:=by rfl):
  PE (X0.wish (XE X0 R)) (.Call (.Name x p) (e::es) [] pos) (λσ H Q=>t σ H λvs H1=>∃E:XK,(∀a H',E (.ref a) none H'->R σ a H')/\sp vs H1 Q E):=by
 intro pins s σ H Q I h;refine z72 (xK I hg hm ?_ g);refine z96 (h₀:=X0.base) I.ok.mod.kin hk (thn (ha pos pins s σ H _ I h) λus s1 d=>?_) he hpl;obtain⟨vs,H1,c,r,E,l,q⟩:=d;refine⟨c.kIn,?_⟩;have i:(us++[]).length=ps.length:=by rw[z51,<-r.length];exact F.len _ _ _ _ q
 have b:=hb s1 us c.kIn i;rw[z51]at b;refine yc7 (yb9 (F.run X0.A X0.stack s1 H1 ⟨us,[]⟩ us vs Q E hr c.env0 b r q) λr s' hq=>?_);cases r with
 |error e=>exact zp9 hex c.unwish hq l
 |ok fl=>
  cases fl with
  |ret u=>exact c.after hq
  |next=>exact False.elim hq
  |brk=>exact False.elim hq
  |cont=>exact False.elim hq
variable {φ:List A->(A->Prop)->(PyData->Prop)->Prop}{Q:PyData->Prop}
theorem ly {F:Fr}{σ:St}{H:Hp}{vs:List V}{as:List A}{i:A->Prop}{n:VK}{R:St->Addr->Hp->Prop}(m:M F α σ H)(G:α[j]?=some (some (.exc r q0)))(le:leX αh α)(w:∀σ d S a H',M r (αh++[some (.deep d S)]) (σ++[some (.ref a)]) H'->q d->R σ a H')(t:zV F (Gz F α σ H) vs as)(g:φ as i q)
  (s:∀a v H',i a->wO ⟨H,Ow F α σ,F.tp⟩ v H' a->n v H'):∃E:XK,(∀a H',E (.ref a) none H'->R σ a H')/\spX φ vs H n E:=by
 refine⟨λv _ H'=>∃a,v=.ref a/\∃d S,q d/\wO ⟨H,Ow F α σ,F.tp⟩ (.ref a) H' (.deep d S),λa H' h=>?_,⟨⟨H,Ow F α σ,F.tp⟩,as,i,q,rfl,m.tp.to rfl λ_ z=>.inl z,λy z=>m.owEx z,zV.to (F:=F) (F':=⟨H,Ow F α σ,F.tp⟩) (λ_ _ e=>e) rfl t,g,s,λd S a H' l f=>⟨a,rfl,d,S,l,f⟩⟩⟩;obtain⟨I,e,d,S,l,f⟩:=h;cases e;obtain⟨g1,g2,_⟩:=f.back m;obtain⟨_,_,g3,c⟩:=f;have m3:=m.snoc (v:=.ref a) (b:=.deep d S) (H':=H') g1 g2 (λx z=>(c x z).2.1) ⟨_,rfl,g3.same λx o e=>?_,λx z=>⟨ow0 (c x z).1,m.fresh0 (c x z).2.1,(c x z).2.2⟩⟩
 ·exact w σ d S a H' (m3.backS G le trivial) l
 ·unfold uM at e ⊢;by_cases z:S x
  ·rw[if_pos z]at e ⊢;exact e
  ·rw[if_neg z]at e ⊢;cases q:sub (λx=>¬Ow F α σ x) H' x with
   |none=>rw[q]at e;cases e
   |some u=>
    obtain⟨D,B⟩:=zb q;rw[zu (p:=λx=>¬Ow F α σ x/\¬foot (some (V.ref a)) (.deep d S) x) ⟨D,z⟩ B];rw[q]at e;exact e
theorem zj6 {Q:List PyData->Prop}(G:Xok X r αh q)(M:α[j]?=some (some (.exc r q0)))(le:leX αh α)(C:zr4 X.prog X.w X.K X.mg X.base x k φ)(hr:zG k X.A)(hg:Gl X x)(h:EvA X α (e::es) λas=>φ as (λa=>∃ds,a=.own ds/\Q ds) q)
  (b:(x == ("__debug__":Str))=false:=by decide) (he:starEach (e::es) X.env=(false,eval e X.env)::starEach es X.env:=by rfl) (hpl:(backTo pos (starEach es X.env)).any (·.1)=false:=by rfl):EvL X α (.Call (.Name x p) (e::es) [] pos) Q:=λF σ H O m g=>by
 obtain⟨X0,R,rfl,N,t,I⟩:=G.ex;obtain⟨f,fd,ps,y,s,z,D⟩:=C.ex;refine⟨_,bF t D hr hg y s z yv b he hpl,?_⟩;refine h F σ H _ m λas vs H1 B t1 k1 i=>?_;have m1:=m.kz k1 t1;refine ly m1 M le I i B λa v H' o c=>?_;obtain⟨ds,rfl,J⟩:=o;obtain⟨g1,g2,_⟩:=c.back m1;obtain⟨_,_,l,xs,ds',rfl,u,L,P,n,d⟩:=c;cases u;exact g ds _ H' J g1 (k1.trans g2) (yK.back m k1 t1 ⟨l,xs,rfl,L,n,d⟩)
end
section
variable {P:Program}{w:World}{K:PySem.W.Frag}{mg:Str->Option Value}{base:Heap}
theorem zW4 {x qual:Str}{st:Stmt}{f:Addr}{fd:FuncData}{N ps:List Str}{z:Str}{k:Nat}{φ:List A->(A->Prop)->(PyData->Prop)->Prop}(G:Fun K x qual st f fd)(hm:mg x=some (.ref f))(hb:Binds K fd ps [])(S:zI (N++[z]) ps (zd st))(c:ps.length<=N.length)(hlen:∀as Q q,φ as Q q->as.length=ps.length)
  (a:∀(cdv:Value) (b:Around) (outer:List Env) (s:Shared) (H:Hp) (E:XK) (as:List A) (Q:A->Prop) (q:PyData->Prop) (r:Fr) (xe:Value->Shared->Prop),zG k (b.deeper (envOfC qual (zd st) s.heap.objs.size f cdv))->φ as Q q->Xok ((xp (CX1 P w base) P w K mg base (N++[z]) qual (zd st) f cdv b outer s H E).wish xe) r (List.replicate (N.length+1) none) q->
   SvS ((xp (CX1 P w base) P w K mg base (N++[z]) qual (zd st) f cdv b outer s H E).wish xe) ((as.map some++List.replicate (N.length-as.length) none)++[some (.exc r λ_=>True)]) (zr st) {nx:=λ_=>Q (.dat .none),rt:=Q}):zr4 P w K mg base x (k+1) φ:=
 ⟨f,fd,ps,hm,G.kp,hb,fnX G S c hlen a⟩
end
section
variable {X:Cx}{α αh:Ev}{q:PyData->Prop}{i j:Nat}{x n:Str}{B:Addr}{body suite rest:List Stmt}{b0:Stmt}{np hpos pos:Pos}{E:yp}
theorem kh {K:PySem.W.Frag}{r:Fr}{αh:Ev}(hq:∀d,q d->∃C,isX C d/\XB K C B):iR K B (λσ a H=>∃d S,M r (αh++[some (.deep d S)]) (σ++[some (.ref a)]) H/\q d):=λσ a H c=>by
 obtain⟨d,S,m,k⟩:=c;obtain⟨C,x,b⟩:=hq d k;obtain⟨av,_⟩:=qH m;obtain⟨l,dx,e,g,f⟩:=x.at av;cases e;exact⟨C,dx,cy g,λy e=>by obtain⟨fs,h⟩:=f y e;exact⟨fs,cy h⟩,b⟩
theorem oK {β:Ev}{j:Nat}{a:A}{i:Nat}(e:(β.set j none)[i]?=some (some a)):β[i]?=some (some a):=by
 rcases zz e with⟨_,z⟩|⟨_,z⟩
 ·cases z
 ·exact z
theorem M.drop {F:Fr}{β:Ev}{σ:St}{H:Hp}{j:Nat}(m:M F β σ H):M F (β.set j none) σ H:=m.forget (by rw[z31]) λi a e=>oK e
theorem ze6 (j:Nat)(αh:Ev)(q:PyData->Prop)(g:X.stack=X.env::X.outer)(hex:X.ex=[])(t:α[j]?=some none)(le:leX αh α)(hg:Gl X x)(hm:X.mg x=some (.ref B))(hq:∀d,q d->∃C,isX C d/\XB X.K C B)
  (o:∀(pins:List (Addr×Obj)) (xe:Value->Shared->Prop) (r:Fr),Xok ((X.held pins).wish xe) r αh q->SvS ((X.held pins).wish xe) (α.set j (some (.exc r λ_=>True))) body {nx:=λb=>SvS X (b.set j none) rest E,rt:=E.rt,bk:=λb=>E.bk (b.set j none),ct:=λb=>E.ct (b.set j none)})
  (p:∀(pins:List (Addr×Obj)) (a:Addr) d,q d->SvS ((X.held pins).suite a) αh (b0::suite) {nx:=λb=>SvS X b rest E,rt:=E.rt,bk:=E.bk,ct:=E.ct})
  (h:(x == ("__debug__":Str))=false:=by decide):
  SvS X α (.Try body [.ExceptHandler (some (.Name x np)) none (b0::suite) hpos] [] [] pos::rest) E:=λF σ H D m e=>by
 refine⟨_,zy (zD0 (R:=λσ a H=>∃d S,M F (αh++[some (.deep d S)]) (σ++[some (.ref a)]) H/\q d) g hg hm (kh hq) h) zE,λpins=>?_,λpins a c H' s=>?_⟩
 ·refine o pins _ F ⟨_,_,rfl,g,hex,λσ d S a H' l k=>⟨d,S,l,k⟩⟩ F σ H _ (m.exc t) ⟨λb c H' f z=>?_,e.rt,λb c H' f z=>e.bk _ _ _ f.drop z,λb c H' f z=>e.ct _ _ _ f.drop z⟩;exact z F c H' D f.drop e
 ·obtain⟨d,S,l,k⟩:=s;refine p pins a d k F _ H' _ l.init ⟨λb c H' f z=>?_,e.rt,e.bk,e.ct⟩;exact z F _ H' D f e
end
section
variable {X:Cx}{α:Ev}{p p1 pos:Pos}{a:Expr}{Q:PyData->Prop}{C S:Addr}{init:Option Value}
end
section
variable {X:Cx}{α:Ev}{pos:Pos}{o:Expr}{f:Str}{Q:PyData->Prop}{C S:Addr}{init:Option Value}
end
section
variable {P:Program}{w:World}{K:PySem.W.Frag}{mg:Str->Option Value}{base:Heap}
end
section
variable {X:Cx}{α αh:Ev}{r:Fr}{q q0:PyData->Prop}{j k:Nat}{x fl:Str}{C:Addr}{e:Expr}{es:List Expr}{p pos pos':Pos}{rest:List Stmt}{E:yp}
end
section
variable {P:Program}{w:World}{K:PySem.W.Frag}{mg:Str->Option Value}{base:Heap}
end
def kY (K:Frag)(C S:Addr)(init:Option Value):Bool:=vm K C S init&&findIn K (.ref C) "__setattr__" == some (some (.builtin "object.__setattr__"))&&findIn K (.ref C) "__getattribute__" == some (some (.builtin "BaseException.__getattribute__"))&&findIn K (.ref C) "__getattr__" == some none&&findIn K (.ref C) "__class__" == some (some (.builtin "object.__class__"))&&specialIn K (.builtin "object.__class__") "__get__" == some (some (.builtin "getset_descriptor.__get__"))&&takesIn K (.builtin "object.__class__")==some true
theorem XC.of {K:Frag}{C S:Addr}{init:Option Value}(h:kY K C S init=true):XC K C S init:=by
 simp only[kY,z21,yc6]at h;obtain⟨⟨⟨⟨⟨⟨e,a⟩,g⟩,f⟩,c⟩,d⟩,b⟩:=h;exact⟨e,a,g,f,c,d,b⟩
def zc4 (K:Frag)(C B:Addr):Bool:=typeIn K (.ref B)==some (.type "type")&&mroIn K B (.type "BaseException")==some true&&mroIn K C (.ref B)==some true
theorem XB.of {K:Frag}{C B:Addr}(h:zc4 K C B=true):XB K C B:=by
 simp only[zc4,z21,yc6]at h;exact⟨h.1.1,h.1.2,h.2⟩
section
variable {P:Program}{w:World}{K:PySem.W.Frag}{mg:Str->Option Value}{base:Heap}
end
section
variable {X:Cx}{α αh:Ev}{r:Fr}{q q0:PyData->Prop}{j k:Nat}{x fl:Str}{C:Addr}{e:Expr}{es:List Expr}{p pos pos':Pos}{rest:List Stmt}{E:yp}{Q:PyData->Prop}{φ:List A->(PyData->Prop)->Prop}
end
end L2
namespace SortA
open PySem PySem.W PyProof.Rows
theorem jf {a b:Str}(h:a.cps.toList=b.cps.toList):a=b:=by
 cases a;cases b;simp only[Str.mk.injEq];exact Array.toList_inj.mp h
def lxT (p q:Str×Int):Bool:=decide (p.1.cps.toList<q.1.cps.toList\/(p.1=q.1/\p.2<q.2))
def rE (ps:List (Str×Int))(i:Nat):Str×Int:=ps.getD i (Str.ofString "",0)
theorem jJ (ps:List (Str×Int)):Ord λi j=>lxT (rE ps i) (rE ps j) where
 irr:=λa=>by simp[lxT,ya7]
 tr:=λa b c=>by
  unfold lxT;generalize rE ps a=x;generalize rE ps b=y;generalize rE ps c=z;simp only[z43,not_or,not_and];rintro⟨g,d⟩ ⟨l,k⟩;have l1:=List.not_lt.mp g;have l2:=List.not_lt.mp l;refine⟨λh=>?_,λe=>?_⟩
  ·exact List.not_lt.mpr (List.le_trans l1 l2) h
  ·rw[e]at l2;have m:=List.le_antisymm l1 l2;have f:=jf m;have:=d f.symm;have:=k (e.trans f);omega
 asy:=λa b=>by
  unfold lxT;generalize rE ps a=x;generalize rE ps b=y;simp only[z43,z44,not_or,not_and];rintro(h|⟨e,h⟩)
  ·refine⟨λd=>ya7 _ (List.lt_trans h d),λe=>?_⟩;rw[e]at h;exact(ya7 _ h).elim
  ·rw[e];exact⟨ya7 _,λ_=>by omega⟩
end SortA
namespace L2
open PySem PySem.Spec PySem.Calls PySem.W PyProof.Rows SortA
section
variable {prog:Program}{w:World}{A:Around}{E:Value->Shared->Prop}{s:Shared}
end
section
variable {X:Cx}{pins:List (Addr×Obj)}{σ:St}{H H':Hp}{s:Shared}
end
section
variable {X:Cx}{α:Ev}{e:Expr}{p pos:Pos}
end
end L2
namespace SortA
open PySem PySem.W PyProof.Rows
def lxH (p q:Int×Str×Int):Bool:=decide (p.1<q.1\/(p.1=q.1/\lxT p.2 q.2=true))
def yH (ps:List (Int×Str×Int))(i:Nat):Int×Str×Int:=ps.getD i (0,Str.ofString "",0)
theorem zf9 (x:Str×Int):lxT x x=false:=by simp[lxT,ya7]
theorem zI4 {x y z:Str×Int}(b:lxT y x=false)(a:lxT z y=false):lxT z x=false:=by
 have:=(jJ [x,y,z]).tr 0 1 2 (by simpa[rE]using b) (by simpa[rE]using a);simpa[rE]using this
theorem zg6 {x y:Str×Int}(h:lxT x y=true):lxT y x=false:=(jJ [x,y]).asy 0 1 (by simpa[rE]using h)
theorem zl0 (ps:List (Int×Str×Int)):Ord λi j=>lxH (yH ps i) (yH ps j) where
 irr:=λa=>by simp[lxH,zf9]
 tr:=λa b c=>by
  unfold lxH;generalize yH ps a=x;generalize yH ps b=y;generalize yH ps c=z;simp only[z43,not_or,not_and,Bool.not_eq_true];rintro⟨k,d⟩ ⟨l,f⟩;refine⟨by omega,λe=>?_⟩;have e1:x.1=y.1:=by omega
  have g:y.1=z.1:=by omega
  have a1:=d e1.symm;have a2:=f g.symm;exact zI4 a1 a2
 asy:=λa b=>by
  unfold lxH;generalize yH ps a=x;generalize yH ps b=y;simp only[z43,z44,not_or,not_and,Bool.not_eq_true];rintro(h|⟨e,h⟩)
  ·exact⟨by omega,λe=>by omega⟩
  ·exact⟨by omega,λ_=>zg6 h⟩
theorem mf (ps:List (Int×Str×Int))(h:0<ps.length):∃d:List Nat,run (λi j=>lxH (yH ps i) (yH ps j)) (kas_sort ps.length)=d.toArray/\d.length=ps.length/\(∀i∈d,i<ps.length)/\(d.map (yH ps)).Perm ps/\(d.map (yH ps)).Pairwise (λp q=>lxH q p=false):=by
 obtain⟨a,b,c⟩:=ib (zl0 ps) h;generalize run (λi j=>lxH (yH ps i) (yH ps j)) (kas_sort ps.length)=r at a b c;have e:(List.range ps.length).map (yH ps)=ps:=by
  apply List.ext_getElem
  ·simp
  ·intro i f k;simp[yH,k]
 have pl:r.toList.Perm (List.range ps.length):=by
  have:=Array.perm_iff_toList_perm.mp b;simpa using this
 refine⟨r.toList,by simp,by simpa using a,λi hi=>by simpa using pl.mem_iff.mp hi,?_,?_⟩
 ·have:=pl.map (yH ps);rw[e]at this;exact this
 ·rw[List.pairwise_map,List.pairwise_iff_getElem];intro i j hi o n;have f:j<r.size:=by simpa using o
  have:=c i j (by omega) (by rw[<-a];exact f);have l:g r i=r.toList[i]:=by
   have:i<r.size:=by omega
   simp[g,Array.getD,this]
  have m:g r j=r.toList[j]:=by simp[g,Array.getD,f]
  rw[l,m]at this;exact this
end SortA
namespace L2
open PySem PySem.Spec PySem.Calls PySem.W PyProof.Rows SortA
section
variable {prog:Program}{w:World}{A:Around}{E:Value->Shared->Prop}{s:Shared}
def wC (h:Heap):List Value->List (Int×Str×Int)->Prop
 |[],[]=>True
 |v::vs,p::ps=>(∃a o t0 t u n,v=.ref a/\h.get? a=some o/\o.cls=.type "tuple"/\o.data=.seq #[.int p.1 t0,.str p.2.1 t,.int p.2.2 u] n)/\wC h vs ps
 |_,_=>False
theorem wC.len {h:Heap}:∀{vs:List Value}{ps:List (Int×Str×Int)},wC h vs ps->vs.length=ps.length
 |[],[],_=>rfl
 |[],_::_,h=>h.elim
 |_::_,[],h=>h.elim
 |_::_,_::_,⟨_,h⟩=>by simp[wC.len h]
theorem wC.keep {h h':Heap}(k:∀b o,h.get? b=some o->o.cls=.type "tuple"->h'.get? b=some o):∀{vs:List Value} {ps:List (Int×Str×Int)},wC h vs ps->wC h' vs ps
 |[],[],_=>trivial
 |[],_::_,h=>h.elim
 |_::_,[],h=>h.elim
 |_::_,_::_,⟨⟨a,o,t0,t,u,n,e,d,c,hd⟩,r⟩=>⟨⟨a,o,t0,t,u,n,e,k _ _ d c,c,hd⟩,wC.keep k r⟩
theorem wC.at {h:Heap}:∀{vs:List Value}{ps:List (Int×Str×Int)} (i:Nat),wC h vs ps->i<ps.length->∃a o t0 t u n,vs.getD i Value.none=.ref a/\h.get? a=some o/\o.cls=.type "tuple"/\o.data=.seq #[.int (yH ps i).1 t0,.str (yH ps i).2.1 t,.int (yH ps i).2.2 u] n
 |[],[],_,_,hi=>by simp at hi
 |[],_::_,_,h,_=>h.elim
 |_::_,[],_,h,_=>h.elim
 |_::_,_::_,0,⟨x,_⟩,_=>x
 |_::_,_::_,i+1,⟨_,r⟩,hi=>by
  obtain⟨a,o,t0,t,u,n,e,q⟩:=wC.at i r (by simpa using hi);exact⟨a,o,t0,t,u,n,by simpa using e,q⟩
theorem wC.tups {h:Heap}:∀{vs:List Value}{ps:List (Int×Str×Int)},wC h vs ps->∃fs:List Value,KatTups h vs fs/\fs.length=ps.length/\∀v∈fs,∃(i:Int) (t:Tok),v=.int i t
 |[],[],_=>⟨[],trivial,rfl,λ_ h=>by simp at h⟩
 |[],_::_,h=>h.elim
 |_::_,[],h=>h.elim
 |_::_,p::_,⟨⟨a,o,t0,t,u,n,e,d,c,hd⟩,r⟩=>by
  obtain⟨fs,x,y,z⟩:=wC.tups r;subst e;refine⟨.int p.1 t0::fs,KatTups.cons d c hd (by simp) x,by simp[y],λv b=>?_⟩;rcases zY4.mp b with rfl|b
  ·exact⟨_,_,rfl⟩
  ·exact z v b
theorem fX {a b:Addr}{j ob:Obj}{p q:Int×Str×Int}{t0 t u f t' m:Tok}{n k:Nat}{Q:Bool->Shared->Prop}(ha:s.heap.get? a=some j)(l:j.data=.seq #[.int p.1 t0,.str p.2.1 t,.int p.2.2 u] n)(hb:s.heap.get? b=some ob)(db:ob.data=.seq #[.int q.1 f,.str q.2.1 t',.int q.2.2 m] k)
  (h:Q (lxH p q) s):wpAny (model prog w) A (keyLt' (tuples' true) (.ref a) (.ref b)) Q E s:=by
 refine kat_lt ha l hb db (kat_cons (yc4 ?_));by_cases d:p.1=q.1
 ·have c:(p.1 == q.1)=true:=by simp[d]
  rw[c];have g:lxH p q=lxT p.2 q.2:=by simp[lxH,d]
  rw[g]at h;refine kat_yes (kat_cons (wpAny_eqBool_str ?_));by_cases e:p.2.1=q.2.1
  ·rw[z28 e];refine kat_yes (kat_cons (yc4 ?_));by_cases i:p.2.2=q.2.2
   ·have c:(p.2.2 == q.2.2)=true:=by simp[i]
    rw[c];refine kat_yes (kat_nil ?_);have:lxT p.2 q.2=false:=by simp[lxT,e,i,ya7]
    rw[this]at h;simpa using h
   ·have c:(p.2.2 == q.2.2)=false:=by simp[i]
    rw[c];refine kat_no (kat_one _ _ (wpAny_lt_int ?_));have:lxT p.2 q.2=decide (p.2.2<q.2.2):=by simp[lxT,e,ya7]
    rw[this]at h;exact h
  ·rw[z06 e];refine kat_no (kat_one _ _ (PyProof.Rows.lt_str ?_));have:lxT p.2 q.2=decide (p.2.1.cps.toList<q.2.1.cps.toList):=by simp[lxT,e]
   rw[this]at h;exact h
 ·have c:(p.1 == q.1)=false:=by simp[d]
  rw[c];have g:lxH p q=decide (p.1<q.1):=by simp[lxH,d]
  rw[g]at h;refine kat_no (oneLt_int ?_);exact h
theorem nQ {vs:List Value}{ps:List (Int×Str×Int)}(G:2<=vs.length)(P:wC s.heap vs ps){R:Array Nat->Shared->Prop}(hr:∀c:List Nat,c.length=ps.length->(∀i∈c,i<ps.length)->(c.map (yH ps)).Perm ps->(c.map (yH ps)).Pairwise (λp q=>lxH q p=false)->R c.toArray s):
  wpAny (model prog w) A (keyKind' vs.toArray) (λx s'=>(kas_sort vs.length).kasWp (kas_ask prog w A x vs) R s') (λ_ _=>False) s:=by
 obtain⟨fs,t,F,hi⟩:=P.tups;have hlen:=P.len;refine kat_kind (T:=.type "int") t (by omega) (λv z=>?_) (by decide) ?_
 ·obtain⟨i,t,rfl⟩:=hi v z;exact .now
 ·have e:(Value.type "int" != Value.type "tuple")=true:=by decide
  rw[e];obtain⟨c,e1,m,y,d,g⟩:=mf ps (by omega);rw[hlen];refine wp_run (n:=ps.length) (P:=λ_=>True) (lt:=λi j=>lxH (yH ps i) (yH ps j)) (λi j C hi B f=>?_) _ (pe (by omega)) ?_
  ·obtain⟨a,o,t0,t,u,n,h,ha,_,k⟩:=P.at i hi;obtain⟨b,o',r,t',D,H,l,hb,_,db⟩:=P.at j B;unfold kas_ask;rw[h,l];exact fX ha k hb db f
  ·rw[e1];exact hr c m y d g
def gr (vs:List Value)(ps:List (Int×Str×Int))(out:List Value):Prop:=
 ∃a:List Nat,out=a.map (λi=>vs.getD i Value.none)/\a.length=ps.length/\(∀i∈a,i<ps.length)/\(a.map (yH ps)).Perm ps/\(a.map (yH ps)).Pairwise (λp q=>lxH q p=false)
theorem uL {a:Addr}{vs:List Value}{ps:List (Int×Str×Int)}{n:Nat}{B:PySem.Fin->Shared->Prop}(u:s.heap.get? a=some (seqObj "list" vs.toArray n))(H:vs.length<64)(P:wC s.heap vs ps)
  (h:∀out h' c,gr vs ps out->(∀b o,b≠a->s.heap.get? b=some o->h'.get? b=some o)->h'.get? a=some (seqObj "list" out.toArray c)->B (.done (.ret .none)) {s with heap:=h'}):
  wpAny (model prog w) A (Builtin.«list.sort» ⟨[.ref a],[]⟩) B E s:=by
 have ha:a<s.heap.objs.size:=zY5 u;have s1:=z81 s.heap a (Obj.mapSeq λ_=>(#[]:Array Value));obtain⟨e1,t⟩:∃e1,(s.heap.update a (Obj.mapSeq λ_=>(#[]:Array Value))).get? a=some (seqObj "list" #[] e1):=⟨_,z61 u λ_=>#[]⟩;generalize C:s.heap.update a (Obj.mapSeq λ_=>(#[]:Array Value))=h1 at s1 t;have k1:∀b o,b≠a->s.heap.get? b=some o->((h1.push (seqObj "tuple" vs.toArray 0)).push (seqObj "list" #[] 0)).get? b=some o:=λb o hb e=>
  zX6 _ (zX6 _ ((s1.2 b hb).trans e))
 have j:((h1.push (seqObj "tuple" vs.toArray 0)).push (seqObj "list" #[] 0)).get? a=some (seqObj "list" #[] e1):=zX6 _ (zX6 _ t);have K:wC ((h1.push (seqObj "tuple" vs.toArray 0)).push (seqObj "list" #[] 0)) vs ps:=P.keep λb o e S=>by
  refine k1 b o (λq=>?_) e;rw[q,u]at e;cases e;simp at S
 have fin:∀(out:List Value),gr vs ps out->∀{s':Shared},s'={s with heap:=(h1.push (seqObj "tuple" vs.toArray 0)).push (seqObj "list" #[] 0)}->
   ∀c h',h'.get? a=some (seqObj "list" out.toArray c)->Heap.SameBut a s'.heap h'->B (.done (.ret .none)) {s' with heap:=h'}:=λout y s' z c h' e J=>by
  subst z;exact h out h' c y (λb o hb e=>(J.2 b hb).trans (k1 b o hb e)) e
 rw[list_sort_plain];refine zX5 (listItems_at u rfl ?_);refine zX5 (yb3 u rfl ?_ (by rw[zZ0,z29];omega) (zZ4 _));rw[C];refine zX5 (seqEpoch_at t rfl ?_);refine zX5 (wpAny_newTuple ?_ (by show vs.length<=_;rw[z29];omega));refine zX5 (wpAny_newList ?_ (zZ4 _));refine z34 ?_;show wpAny (model prog w) A _ B E {s with heap:=(h1.push (seqObj "tuple" vs.toArray 0)).push (seqObj "list" #[] 0)};dsimp only;have hlen:=P.len;by_cases f:vs.toArray.size<2
 ·rw[if_pos f,if_pos f];have G:vs.length<2:=by simpa using f
  refine zX5 (zY3 ?_);refine zX5 (zY3 ?_);dsimp only;have y:gr vs ps vs:=by
   match vs,ps,G,hlen with
   |[],[],_,_=>exact⟨[],rfl,rfl,λ_ h=>by simp at h,.refl _,.nil⟩
   |[v],[p],_,_=>exact⟨[0],rfl,rfl,λi h=>by simp at h;subst h;simp,.refl _,by simp⟩
   |_::_::_,_,G,_=>simp only[z00]at G;omega
  have g:(arrOf (SortSt.mk' general' (vs.toArray.zip vs.toArray) #[] 7 none)).map (·.2)=vs.toArray:=by
   show(vs.toArray.zip vs.toArray).map (·.2)=vs.toArray;apply Array.toList_inj.mp;rw[Array.toList_map,Array.toList_zip];exact List.map_snd_zip (zY1 _)
  have hf:failedOf (SortSt.mk' general' (vs.toArray.zip vs.toArray) #[] 7 none)=none:=rfl;rw[g];have s2:=z81 ((h1.push (seqObj "tuple" vs.toArray 0)).push (seqObj "list" #[] 0)) a (Obj.mapSeq λ_=>vs.toArray);obtain⟨m,l⟩:∃m,(((h1.push (seqObj "tuple" vs.toArray 0)).push (seqObj "list" #[] 0)).update a (Obj.mapSeq λ_=>vs.toArray)).get? a=some (seqObj "list" vs.toArray m):=⟨_,z61 j λ_=>vs.toArray⟩;refine zX5 (seqEpoch_at j rfl ?_);refine zX5 (yb3 j rfl ?_ (zZ4 _) (by rw[zZ0,z29];omega));simp only[bne_self_eq_false,z27,z73];exact zY3 (fin vs y rfl m _ l s2)
 ·rw[if_neg f,if_neg f];have I:2<=vs.length:=by simp at f;omega
  have ask:=nQ (prog:=prog) (w:=w) (A:=A) (s:={s with heap:=(h1.push (seqObj "tuple" vs.toArray 0)).push (seqObj "list" #[] 0)}) I K
   (R:=λp D=>gr vs ps (p.toList.map λi=>vs.getD i Value.none)/\D={s with heap:=(h1.push (seqObj "tuple" vs.toArray 0)).push (seqObj "list" #[] 0)}) (λO a b c d=>⟨⟨O,by simp,a,b,c,d⟩,rfl⟩)
  refine zX5 (z26 ask (λU s0 hk=>?_) λ_ _ x=>x.elim);refine zX5 (z26 (kat_run (Q:=λk s'=>∃p:Array Nat,p.size=vs.length/\arrOf k=p.map (kas_item (vs.toArray.zip vs.toArray))/\failedOf k=none/\gr vs ps (p.toList.map λi=>vs.getD i Value.none)/\s'={s with heap:=(h1.push (seqObj "tuple" vs.toArray 0)).push (seqObj "list" #[] 0)})
   rfl I H (λN k s' a1 a2 T M=>⟨N,a1,a2,T,M⟩) hk) ?_ λ_ _ e=>e)
  rintro⟨⟨⟩,k⟩ s' ⟨p,L,F,hf,y,z⟩;dsimp only;have g:=kat_snds rfl F;have hsz:(List.toArray (p.toList.map λi=>vs.getD i Value.none)).size=vs.length:=by rw[zZ0,zX7,yd3,L]
  rw[g];have r:s'.heap.get? a=some (seqObj "list" #[] e1):=by rw[z];exact j
  have s2:=z81 s'.heap a (Obj.mapSeq λ_=>List.toArray (p.toList.map λi=>vs.getD i Value.none));obtain⟨m,l⟩:∃m,(s'.heap.update a (Obj.mapSeq λ_=>List.toArray (p.toList.map λi=>vs.getD i Value.none))).get? a=some (seqObj "list" (List.toArray (p.toList.map λi=>vs.getD i Value.none)) m):=⟨_,z61 r λ_=>List.toArray (p.toList.map λi=>vs.getD i Value.none)⟩;refine zX5 (seqEpoch_at r rfl ?_);refine zX5 (yb3 r rfl ?_ (zZ4 _) (zY8 (zZ5 hsz) (by rw[z29];omega)));rw[hf];simp only[bne_self_eq_false,z27,z73];exact zY3 (fin _ y z m _ l s2)
theorem qk {l:Addr}{vs:List Value}{ps:List (Int×Str×Int)}{Q:Value->Shared->Prop}(i:s.heap.IsList l vs.toArray)(f:vs.length<64)(P:wC s.heap vs ps)
  (h:∀D out h' c,s.heap.objs.size<=D->gr vs ps out->(∀b o,s.heap.get? b=some o->h'.get? b=some o)->h'.get? D=some (seqObj "list" out.toArray c)->Q (.ref D) {s with heap:=h'}):
  wpAny (model prog w) A (call (.builtin "sorted") [.ref l]) Q E s:=by
 refine Calls.call_function_entry kind_sorted plain_sorted entry_sorted (args_sorted1 _) ?_;unfold Builtin.«sorted»;refine zX5 (m:=checkCount "sorted" 1 1 _) (zY3 ?_);refine zX5 (collect_list i ?_ (by rw[z29];omega));refine zX5 (wpAny_newList ?_ (by rw[z29];omega));have hsz:((s.heap.push (seqObj "list" #[] 0)).update s.heap.objs.size (Obj.mapSeq (·++vs.toArray))).objs.size=s.heap.objs.size+1:=by rw[Heap.size_update,size_push']
 have d:(((s.heap.push (seqObj "list" #[] 0)).update s.heap.objs.size (Obj.mapSeq (·++vs.toArray))).push (seqObj "list" vs.toArray 0)).get? (s.heap.objs.size+1)=some (seqObj "list" vs.toArray 0):=by rw[<-hsz];exact zY7 _ rfl
 have keep:∀b o,s.heap.get? b=some o->(((s.heap.push (seqObj "list" #[] 0)).update s.heap.objs.size (Obj.mapSeq (·++vs.toArray))).push (seqObj "list" vs.toArray 0)).get? b=some o:=λb o q=>by
  have a:b<s.heap.objs.size:=zY5 q;rw[yf8 _ _ _ (by rw[hsz];exact zZ7 (z89 a)),Heap.get?_update_ne _ _ _ _ (zZ7 a),yf8 _ _ _ (zZ7 a)];exact q
 show wpAny _ _ _ _ _ {s with heap:=((s.heap.push (seqObj "list" #[] 0)).update s.heap.objs.size (Obj.mapSeq (·++vs.toArray))).push (seqObj "list" vs.toArray 0)};rw[hsz];refine zX5 (z34 (yd0 slot_list_sort ⟨_,d,rfl⟩ entry_list_sort ?body (args_list_sort _)))
 case body=>
  refine uL (s:={s with heap:=((s.heap.push (seqObj "list" #[] 0)).update s.heap.objs.size (Obj.mapSeq (·++vs.toArray))).push (seqObj "list" vs.toArray 0)})
   d f (P.keep λb o e _=>keep b o e) λout h' c g k e=>?_
  exact⟨_,rfl,zY3 ⟨_,rfl,h _ out h' c (z64 _) g (λb o q=>k b o (zZ7 (z89 (zY5 q))) (keep b o q)) e⟩⟩
end
inductive wm (H:Hp):List V->List (Int×Str×Int)->Prop where
 |nil:wm H [] []
 |cons {a:Addr}{xs:List V}{p:Int×Str×Int}{ps:List (Int×Str×Int)}:H a=some (.tup [.int p.1,.str p.2.1,.int p.2.2])->wm H xs ps->wm H (.ref a::xs) (p::ps)
section
variable {X:Cx}{pins:List (Addr×Obj)}{σ:St}{H H':Hp}{s:Shared}
theorem wm.len {xs:List V}{ps:List (Int×Str×Int)}(h:wm H xs ps):xs.length=ps.length:=by
 induction h with
 |nil=>rfl
 |cons _ _ a=>simp[a]
theorem wm.keep {xs:List V}{ps:List (Int×Str×Int)}(k:∀a p q r,H a=some (.tup [.int p,.str q,.int r])->H' a=some (.tup [.int p,.str q,.int r]))(h:wm H xs ps):wm H' xs ps:=by
 induction h with
 |nil=>exact .nil
 |cons e _ b=>exact .cons (k _ _ _ _ e) b
theorem wm.prs (I:Inv X pins σ H s):∀{xs:List V}{ps:List (Int×Str×Int)}{us:List Value},wm H xs ps->Vals xs us->wC s.heap us ps:=by
 intro xs ps us h
 induction h generalizing us with
 |nil=>intro r;cases r;exact trivial
 |@cons a xs p ps e _ ih=>
  intro r;cases r with
  |cons r i=>
   cases(show _=Value.ref a from r);obtain⟨_,its,b,o,f,c,n,hd⟩:=(show zA X.prog X.w H s.heap a (.tup [.int p.1,.str p.2.1,.int p.2.2])from I.hok a _ e);cases b with
   |cons d b=>
    cases b with
    |cons g b=>
     cases b with
     |cons j b=>
      cases b;obtain⟨t0,rfl⟩:=d;obtain⟨t,rfl⟩:=g;obtain⟨t',rfl⟩:=j;exact⟨⟨a,o,t0,t,t',n,rfl,f,c,hd⟩,ih i⟩
theorem wm.at {xs:List V}{ps:List (Int×Str×Int)}(h:wm H xs ps):∀i,i<ps.length->∃a,xs[i]?=some (.ref a)/\H a=some (.tup [.int (yH ps i).1,.str (yH ps i).2.1,.int (yH ps i).2.2]):=by
 induction h with
 |nil=>intro i hi;simp at hi
 |@cons a xs p ps e _ ih=>
  intro i hi;cases i with
  |zero=>exact⟨a,rfl,e⟩
  |succ i=>
   obtain⟨b,e1,c⟩:=ih i (by simpa using hi);exact⟨b,by simpa using e1,c⟩
theorem rO {xs:List V}{us:List Value}{ps:List (Int×Str×Int)}(h:wm H xs ps)(r:Vals xs us):∀d:List Nat,(∀i∈d,i<ps.length)->∃ys,Vals ys (d.map λi=>us.getD i Value.none)/\∀G:Hp,wm G xs ps->wm G ys (d.map (yH ps))
 |[],_=>⟨[],.nil,λ_ _=>.nil⟩
 |i::d,hi=>by
  obtain⟨ys,a,b⟩:=rO h r d λj k=>hi j (.tail _ k);obtain⟨c,e1,l⟩:=h.at i (hi i (.head _));refine⟨.ref c::ys,.cons (rg r i _ e1) a,λG g=>?_⟩;obtain⟨c',e,f⟩:=g.at i (hi i (.head _));rw[e1]at e;cases e;exact .cons f (b G g)
def zw3 (ps:List (Int×Str×Int)):Prop:=ps.Pairwise λp q=>lxH q p=false
theorem qj :yI X (.builtin "sorted") (λxs H Q=>∃(l:Addr) (ys:List V) (ps:List (Int×Str×Int)),xs=[.ref l]/\H l=some (.lst ys)/\wm H ys ps/\ps.length<64/\
  ∀d zs b,H d=none->(∀G,wm G ys ps->wm G zs b)->b.Perm ps->zw3 b->Q (.ref d) (upd H d (.lst zs))):=by
 intro pins s σ H xs us Q I r h;obtain⟨l,ys,ps,rfl,t,a,C,q⟩:=h;obtain⟨u,rfl,y⟩:=Vals.one r;cases(show u=Value.ref l from y);obtain⟨hz,its,n,g,e⟩:=(show zA X.prog X.w H s.heap l (.lst ys)from I.hok l _ t);have P:=a.prs I g;have hlen:=P.len;refine qk (vs:=its) (ps:=ps) ⟨_,e,rfl,n,rfl⟩ (by omega) P λD out h' c hD A k m=>?_;obtain⟨x,B,v,z,i,j⟩:=A;obtain⟨zs,p,f⟩:=rO a g x z;have hn:H D=none:=I.hok.fresh hD;refine⟨.ref D,_,I.laid (o:=.lst zs) (t':=s.toks) k hD ⟨?_,out,c,by rw[B];exact p,m⟩,rfl,q D zs _ hn f i j⟩;rw[(f _ a).len,zX7,v,z29];omega
end
def dH3 (p:Int×Str×Int):PyData:=.tuple [.int p.1,.str p.2.1,.int p.2.2]
theorem bu {H:Hp}{xs:List V}{ps:List (Int×Str×Int)}(h:wm H xs ps):AVs H xs (ps.map dH3):=by
 induction h with
 |nil=>exact .nil
 |cons e _ a=>exact .cons (.tup e (.cons (.int _) (.cons (.str _) (.cons (.int _) .nil)))) a
theorem rN {H:Hp}:∀{ps:List (Int×Str×Int)}{xs:List V},AVs H xs (ps.map dH3)->wm H xs ps
 |[],_,.nil=>.nil
 |p::ps,_,.cons h r=>by
  obtain⟨a,ys,rfl,c,b⟩:=AV.tup_inv (ds:=[.int p.1,.str p.2.1,.int p.2.2]) h;cases b with
  |cons g1 b=>
   cases b with
   |cons g2 b=>
    cases b with
    |cons g3 b=>
     cases b;cases g1.int_inv;cases g2.str_inv;cases g3.int_inv;exact .cons c (rN r)
section
variable {X:Cx}{α:Ev}{e:Expr}{p pos:Pos}
theorem ki {Q:List PyData->Prop}(hg:Gl X "sorted")(hm:X.mg "sorted"=none)(h:EvD X α e λx=>∃ps:List (Int×Str×Int),x=.list (ps.map dH3)/\ps.length<64/\∀b:List (Int×Str×Int),b.Perm ps->zw3 b->Q (b.map dH3))(he:starEach [e] X.env=(false,eval e X.env)::starEach [] X.env:=by rfl):
  EvL X α (.Call (.Name "sorted" p) [e] [] pos) Q:=λF σ H R m k=>by
 refine⟨_,yL qj hg hm boot_sorted (zp zg zF he) (he:=he),?_⟩;refine h F σ H _ m λx s H1 n t1 k1 g=>?_;obtain⟨ps,rfl,d,q⟩:=n;have m1:=m.kz k1 t1;obtain⟨l,xs,rfl,i,f⟩:=g.lst_inv;have o:=(zb i).2;refine⟨l,xs,ps,rfl,o,(rN f).keep λa p q r e=>(zb e).2,d,λt zs b c j pm rs=>?_⟩;obtain⟨g1,g2,g3⟩:=m1.lay c (bu (j _ (rN f)));exact k _ _ _ (q b pm rs) g1 (k1.trans g2) (g3.back m k1 t1)
end
section
variable {X:Cx}{α:Ev}{E:yp}{rest:List Stmt}{tg iter:Expr}{pos:Pos}
theorem zD1 (k i:Nat)(N:List Str)(imp:List (Option Nat))(pat:Pat){b:List PyData}{x:Str}{pos' d:Pos}{scope:Scope}{elt:Expr}{ifs:List Expr}(hk:α[k]?=some (some (.own b)))
  (h:EvI X (α.set k (some (.dat (.list b)))) tg iter λds=>ds.length<=1000/\xf (λC s2 c fp=>X.comp N scope C s2 c fp) pat ifs elt (yA imp (α.set k (some (.dat (.list b))))) ds [] λds=>xQ ds=true/\SvS X (α.set i (some (.own ds))) rest E)
  (G:X.N.Nodup:=by assumption)
  (nd:N.Nodup:=by decide +kernel) (w:scope.kind=.function:=by rfl) (J:∀y∈scope.names,y.2≠.cell:=by decide +kernel) (P:∀y∈scope.names,y.2=.local->scope.names.lookup y.1=some .local:=by decide +kernel) (O:scope.names.all (freeOk X.env.scope)=true:=by rfl) (u:imp.length=N.length:=by rfl)
  (A:((imp.zip N).all λp=>match p.1 with|none=>true|some j=>X.N[j]? == some p.2&&scope.names.lookup p.2 == some .free)=true:=by rfl) (e:pat.free (yA imp (α.set k (some (.dat (.list b)))))=true:=by rfl)
  (hg:∀C s2 c fp,N.Nodup->PG (X.comp N scope C s2 c fp) tg (ng X.K pat):=by intro _ _ _ _ f;first|exact yc f rfl (Or.inl rfl)|exact ve rfl rfl (by repeat (first|exact uy|refine wu (yc f rfl (Or.inl rfl)) ?_)))
  (L:X.calm=true:=by rfl)
  (hi:X.N[i]?=some x:=by rfl) (M:Loc X.env.scope x:=by first|exact Or.inl rfl|exact Or.inr rfl) (g:swapsWith (.ListComp elt [⟨tg,iter,ifs,0⟩] scope d) (some (.Name x pos')) pos.line X.env=pure true:=by rfl)
  (hf:X.fn x=true\/X.env.scope.names.lookup x=some .local:=by first|exact .inl rfl|exact .inr rfl|assumption) (S:∀x,foldedSetIterable iter X.env x=pure x:=by intro _;rfl):
  SvS X α (.Assign [.Name x pos'] (.ListComp elt [⟨tg,iter,ifs,0⟩] scope d) pos::rest) E:=λF σ H D m r=>by
 obtain⟨Y,rfl,h⟩:=oY e h F σ H (λv H'=>ja X rest D (σ.set i (some v)) H') (m.frz hk) λds v H' q t kz fl=>q.2 F _ H' D (m.setOwn t kz (by
  obtain⟨l,xs,g1,g2,g3,B⟩:=fl;refine⟨l,xs,g1,g2,g3,B.noL (λa ys hno z=>?_) q.1⟩;obtain⟨n,o⟩:=zb z;obtain⟨T,R⟩:=zb (kA m kz hk a ys hno (zu n.1 o));exact zu ⟨T,n.2⟩ R)) r
 exact⟨_,zy (lM L ⟨w,nd,J,P,sF O,u,A⟩ tU (λC s2 c fp=>hg C s2 c fp nd) (λC s2 c fp pins s σ H Q I h=>pH pins s σ H Q I (h C s2 c fp)) (λC s2 c fp pins s σ H Q I h=>zg pins s σ H Q I (h C s2 c fp)) G hi M g hf S) zE,h⟩
end
theorem zI.o {N P:List Str}{sc:Scope}(e:sc.kind=.function:=by rfl)(a:sc.isCoroutine=false:=by rfl)(g:sc.isGenerator=false:=by rfl)(f:N.Nodup:=by decide +kernel)(c:N.take P.length=P:=by rfl)(d:∀x∈P,sc.names.lookup x=some .local\/sc.names.lookup x=some .cell:=by decide +kernel)(b:∀y∈sc.names,y.2≠.free:=by decide +kernel):zI N P sc:=⟨e,a,g,f,c,d,b⟩
abbrev Ph :=List A->(A->Prop)->Prop
section
variable {P:Program}{w:World}{K:PySem.W.Frag}{mg:Str->Option Value}{base:Heap}
def FnD (K:PySem.W.Frag)(mg:Str->Option Value)(x:Str)(st:Stmt)(ps:List Str):Prop:=∃f fd,Fun K x x st f fd/\mg x=some (.ref f)/\Binds K fd ps []
theorem zZ {x:Str}{st:Stmt}{ps:List Str}{k:Nat}{φ:List A->(A->Prop)->Prop}(N:List Str)(G:FnD K mg x st ps)
  (a:∀(f:Addr) (cdv:Value) (b:Around) (outer:List Env) (s:Shared) (H:Hp) (E:XK) (as:List A) (Q:A->Prop),N.Nodup->zG k (b.deeper (envOfC x (zd st) s.heap.objs.size f cdv))->φ as Q->
   SvS (xp CX0 P w K mg base N x (zd st) f cdv b outer s H E).nox (as.map some++List.replicate (N.length-as.length) none) (zr st) {nx:=λ_=>Q (.dat .none),rt:=Q})
  (S:zI N ps (zd st):=by exact .o) (hlen:∀as Q,φ as Q->as.length=ps.length:=by intro _ _ h;repeat first|(obtain⟨rfl,_⟩:=h;rfl)|obtain⟨_,h⟩:=h):Cal P w K mg base x (k+1) φ:=by
 obtain⟨f,fd,F,hm,hb⟩:=G;exact zW2 F hm hb S hlen λcdv b outer s H E as Q hr h=>a f cdv b outer s H E as Q S.nd hr h
theorem lh {C f:Addr}{fd:FuncData}{m d:Str}{st:Stmt}{ps:List Str}{k:Nat}{φ:List A->(A->Prop)->Prop}(N:List Str)(c:Cls K C)(e:Meth K C m f)(F:Fun K m d st f fd)(hb:Binds K fd ps [])
  (a:∀(cdv:Value) (b:Around) (outer:List Env) (s:Shared) (H:Hp) (E:XK) (as:List A) (Q:A->Prop),N.Nodup->zG k (b.deeper (envOfC d (zd st) s.heap.objs.size f cdv))->φ as Q->
   SvS (xp CX0 P w K mg base N d (zd st) f cdv b outer s H E).nox (as.map some++List.replicate (N.length-as.length) none) (zr st) {nx:=λ_=>Q (.dat .none),rt:=Q})
  (S:zI N ps (zd st):=by exact .o) (hlen:∀as Q,φ as Q->as.length=ps.length:=by intro _ _ h;repeat first|(obtain⟨rfl,_⟩:=h;rfl)|obtain⟨_,h⟩:=h):xC P w K mg base C m (k+1) φ:=
 ⟨f,fd,ps,c,e,hb,fnA F S hlen λcdv b outer s H E as Q hr h=>a cdv b outer s H E as Q S.nd hr h⟩
end
end L2
set_option maxHeartbeats 4000000
namespace K94
open PySem PySem.Spec PyProof.Rows L2
def top (i:Nat):Stmt:=PySem.Challenge.pw_stayprice_k94_whole_lifted_by_rules.main.body.getD i (.Pass ⟨0,0,0,0⟩)
abbrev qS :Stmt:=top 63
abbrev aZ :Stmt:=top 64
def gH :Scope:=match zr qS with
 |[.Return (some (.List (.ListComp _ _ sc _::_) _)) _]=>sc
 |_=>zd qS
section
variable {P:Program}{w:World}{K:PySem.W.Frag}{mg:Str->Option Value}{base:Heap}
theorem zJ0 :zI ["_law_script"] ["_law_script"] (zd qS):=⟨rfl,rfl,rfl,by decide +kernel,rfl,by decide +kernel,by decide +kernel⟩
theorem dH :zM ["_law_script"] (zd qS) ["_law_cell"] [none] gH:=⟨rfl,by decide +kernel,by decide +kernel,by decide +kernel,by decide +kernel,rfl,by decide +kernel⟩
theorem zp8 {f:Addr}{fd:FuncData}(F:Fun K "_law_tape" "_law_tape" qS f fd)(T:zD2 mg):yn P w K mg base CX0 1 f fd ["_law_script"] (km K):=by
 refine F.ok zJ0 (λvs H Q E h=>?_) (λcdv A outer s H vs Q E hr h=>?_)
 ·obtain⟨a,ns,rfl,_⟩:=h;rfl
 ·obtain⟨a,ns,rfl,I,hlen,k⟩:=h;refine⟨_,wF (ub (bQ (zp
   (zx6 rfl dH (jS (rP oH (pv 0) pI (ou zt)))
    (λ_ _ _ _=>yc (i:=0) dH.nd rfl (Or.inl rfl))
    (λ_ _ _ _=>jY (vC zK7 (yL mI (by rfl) T.abs boot_abs (zp (pv 0) zF)) (yk bX zt zt) (yt _)))
    (λ_ _ _ _=>yL mI (by rfl) T.abs boot_abs (zp (pv 0) zF)))
   (zp (xr ui (by rfl) T.list boot_list (zp (rP oH (pv 0) pI (ou zt)) zF))
   (zp zt zF))))),?_⟩
  -- script[:63]
  refine⟨_,rfl,63,rfl,a,_,rfl,I,λl L=>?_⟩;obtain⟨ms,em,lm⟩:=cn ns none (some 63);rw[em];refine⟨l,rfl,⟨_,SqL.of zf⟩,λacc d=>?_⟩;have r:acc≠l:=λz=>by rw[z,zf]at d;cases d
  have g:H acc=none:=by rw[zc r]at d;exact d
  have s0:zw H (upd H l (.lst (ms.map V.int))):=λb o e=>by rw[zc (zh e L)];exact e
  refine fV (K:=K) (a:=l) (xs:=ms.map V.int) (λi ys u B=>∃(bs:List Int) (v:Option V),ys=bs.map V.int/\bs.length<=i/\u=[v]/\B=upd (upd H l (.lst (ms.map V.int))) acc (.lst (bs.map V.int)))
   ⟨[],none,rfl,zY1 _,rfl,rfl⟩ ?_ ?_ ?_
  ·rintro i ys u B _ ⟨bs,v,rfl,_,rfl,rfl⟩;exact SqL.of (by rw[zc r.symm,zf])
  ·rintro i x ys u B q ⟨bs,v,rfl,hb,rfl,rfl⟩;have hi:i<ms.length:=by
    have:=(zX9.mp q).1
    rwa [zX7]at this
   obtain⟨z,rfl⟩:∃z,x=V.int z:=by
    rw[zZ1]at q;cases e:ms[i]? with
    |none=>rw[e]at q;cases q
    |some z=>rw[e]at q;exact⟨z,(z07 q).symm⟩
   refine⟨_,rfl,z,rfl,_,_,rfl,rfl,⟨by decide,by decide,by decide⟩,_,_,rfl,rfl,_,rfl,?_⟩;refine dz (λ_=>?_) (λ_=>?_)
   ·refine⟨_,rfl,z,rfl,zf,?_,bs++[if z<0 then -z else z],_,?_,?_,rfl,?_⟩
    ·rw[zX7];exact ye (by omega)
    ·rw[z39];rfl
    ·rw[zZ9];simp;omega
    ·rw[uh,z39];rfl
   ·exact⟨bs,_,rfl,by omega,rfl,rfl⟩
  ·rintro ys u B ⟨bs,v,rfl,hb,rfl,rfl⟩;rw[zX7]at hb
   -- list(script[:63])
   have s1:zw H (upd (upd H l (.lst (ms.map V.int))) acc (.lst (bs.map V.int))):=λb o e=>by rw[zc (zh e g)];exact s0 b o e
   refine⟨_,rfl,63,rfl,a,_,rfl,s1.seq I,λl2 p=>?_⟩;rw[em];refine⟨l2,_,rfl,.inl (SqL.of zf),λc C=>?_⟩;refine⟨(by show 3<=sizeLine;decide),λt y=>?_⟩;have n1:l2≠acc:=λz=>by rw[z,zf]at p;cases p
   have J:c≠l2:=λz=>by rw[z,zf]at C;cases C
   have j:upd (upd H l (.lst (ms.map V.int))) acc (.lst (bs.map V.int)) c=none:=by rw[zc J]at C;exact C
   have D:c≠acc:=λz=>by rw[z,zf]at j;cases j
   have G:t≠c:=λz=>by rw[z,zf]at y;cases y
   have m:upd (upd (upd H l (.lst (ms.map V.int))) acc (.lst (bs.map V.int))) l2 (.lst (ms.map V.int)) t=none:=by rw[zc G]at y;exact y
   have N:t≠l2:=λz=>by rw[z,zf]at m;cases m
   have n:upd (upd H l (.lst (ms.map V.int))) acc (.lst (bs.map V.int)) t=none:=by rw[zc N]at m;exact m
   have M:t≠acc:=λz=>by rw[z,zf]at n;cases n
   refine k t acc c _ ⟨0,bs,ms,D.symm,zf,?_,?_,by omega,by omega⟩ (s1.free n) g (s1.free j) λb o e=>?_
   ·rw[zc M.symm,zc D.symm,zc n1.symm,zf]
   ·rw[zc G.symm,zf]
   ·have e1:=s1 b o e;rw[zc (zh e1 n),zc (zh e1 j),zc (zh e1 p)];exact e1
theorem uN :zI ["_law_tape_here","_law_many","_law_found","_law_cell","_law_number"] ["_law_tape_here","_law_many"] (zd aZ):=⟨rfl,rfl,rfl,by decide +kernel,rfl,by decide +kernel,by decide +kernel⟩
theorem zo2 {f:Addr}{fd:FuncData}(F:Fun K "_law_draw" "_law_draw" aZ f fd)(T:zD2 mg):yn P w K mg base CX0 1 f fd ["_law_tape_here","_law_many"] zf2:=by
 refine F.ok uN (λvs H Q E h=>?_) (λcdv A outer s H vs Q E hr h=>?_)
 ·obtain⟨t,b,c,many,rfl,_⟩:=h;rfl
 ·obtain⟨t,b,c,many,rfl,⟨n,bs,cs,x,L,hb,hc,lb,lc⟩,p,N,k⟩:=h;have B:t≠b:=cx L hb (iJ bs);have U:t≠c:=cx L hc (iJ cs);have G:many.natAbs.log2<9000:=log2_small p N
  -- tape[2]=tape[2]+1
  refine xl (λσ H1=>σ=[some (.ref t),some (.int many),none,none,none]/\H1=upd H t (.lst [.ref b,.ref c,.int (n+1)]))
   ⟨_,kC (yk uX (yy zL (pv 0) zt (λ_ _=>rfl)) zt) (jv (pv 0) zt set_list),?_⟩ ?_
  ·exact⟨_,rfl,t,_,2,_,rfl,rfl,SqL.of L,rfl,_,_,rfl,rfl,_,rfl,t,_,2,2,rfl,rfl,L,rfl,rfl,rfl⟩
  rintro σ H1 ⟨rfl,v⟩;have Z:H1 t=some (.lst [.ref b,.ref c,.int (n+1)]):=by rw[v];exact zf
  have Y:H1 b=some (.lst (bs.map V.int)):=by rw[v,zc B.symm];exact hb
  have a0:H1 c=some (.lst (cs.map V.int)):=by rw[v,zc U.symm];exact hc
  have D:pT t b H H1:=λa I C=>by rw[v,zc I]
  clear v
  -- while len(tape[0]) > 0 and tape[0][0]==0:tape[0].pop(0)
  refine xl (λσ q=>∃g:List Int,g.length<=63/\σ=[some (.ref t),some (.int many),none,none,none]/\q t=some (.lst [.ref b,.ref c,.int (n+1)])/\q b=some (.lst (g.map V.int))/\q c=some (.lst (cs.map V.int))/\pT t b H q)
   ⟨_,lO yh8 (cG (vC iY (yL yG (by rfl) T.len ye9 (zp (yy zL (pv 0) zt (λ_ _=>rfl)) zF)) zt (yt _))
     (iD (vC ai (yy zL (yy zL (pv 0) zt (λ_ _=>rfl)) zt (λ_ _=>rfl)) zt (yt _)))).pt
    (wF (oh (za1 yf2 PySem.F.slot_list_pop PySem.F.type_list_pop ze1 (yy zL (pv 0) zt (λ_ _=>rfl)) (zp zt zF)))),?_⟩ ?_
  ·refine⟨λm σ q=>∃g:List Int,m=g.length/\g.length<=63/\σ=[some (.ref t),some (.int many),none,none,none]/\q t=some (.lst [.ref b,.ref c,.int (n+1)])/\q b=some (.lst (g.map V.int))/\q c=some (.lst (cs.map V.int))/\pT t b H q,
    ⟨_,bs,rfl,lb,rfl,Z,Y,a0,D⟩,?_⟩
   rintro m σ q ⟨g,rfl,u,rfl,d,e,o,l⟩;refine⟨_,rfl,t,_,0,_,rfl,rfl,SqL.of d,rfl,b,_,rfl,.inl (SqL.of e),_,_,rfl,rfl,_,rfl,?_⟩;refine dz (λ_=>?_) (λ_=>?_)
   ·cases g with
    |nil=>rename_i z;simp at z
    |cons z r=>
     refine⟨_,rfl,t,_,0,_,rfl,rfl,SqL.of d,rfl,b,_,0,_,rfl,rfl,SqL.of e,at0,rfl,_,rfl,?_⟩;refine dz (λ_=>?_) (λ_=>?_)
     ·refine⟨_,λa1 H' h'=>h',_,rfl,t,_,0,_,rfl,rfl,SqL.of d,rfl,.inl ⟨rfl,_,SqL.of e⟩,b,_,0,0,_,rfl,rfl,e,by decide,by decide,zV3,rfl,r.length,?_,r,rfl,?_,rfl,?_,zf,?_,?_⟩
      ·simp
      ·simp at u;omega
      ·rw[zc B];exact d
      ·rw[zc x.symm];exact o
      ·exact l.trans λa I C=>by rw[zc C]
     ·exact⟨_,u,rfl,d,e,o,l⟩
   ·exact⟨_,u,rfl,d,e,o,l⟩
  rintro σ q ⟨g,u,rfl,d,e,o,l⟩
  -- if len(tape[0]) > 0:..
  refine xl (λσ H3=>σ=[some (.ref t),some (.int many),none,none,none]/\q=H3)
   ⟨_,ae (vC iY (yL yG (by rfl) T.len ye9 (zp (yy zL (pv 0) zt (λ_ _=>rfl)) zF)) zt (yt _))
    (zy (xP (i:=2) uN.nd rfl (Or.inl rfl) (yk vS (yy zL (yy zL (pv 0) zt (λ_ _=>rfl)) zt (λ_ _=>rfl)) (pv 1)))
    (zy (kC (yk rF (yy zL (yy zL (pv 0) zt (λ_ _=>rfl)) zt (λ_ _=>rfl)) (pv 1)) (jv (yy zL (pv 0) zt (λ_ _=>rfl)) zt set_list))
    (wF (ub (pv 2))))) oS,?_⟩ ?_
  ·refine⟨_,rfl,t,_,0,_,rfl,rfl,SqL.of d,rfl,b,_,rfl,.inl (SqL.of e),_,_,rfl,rfl,_,rfl,?_⟩;refine dz (λ_=>?_) (λ_=>?_)
   ·cases g with
    |nil=>rename_i z;simp at z
    |cons z r=>
     refine⟨_,rfl,t,_,0,_,rfl,rfl,SqL.of d,rfl,b,_,0,_,rfl,rfl,SqL.of e,at0,_,rfl,_,_,rfl,rfl,p,?_⟩;refine⟨_,rfl,t,_,0,_,rfl,rfl,SqL.of d,rfl,b,_,0,_,rfl,rfl,SqL.of e,at0,_,rfl,_,_,rfl,rfl,⟨p,G⟩,?_⟩;refine⟨_,rfl,t,_,0,_,rfl,rfl,SqL.of d,rfl,b,_,0,0,rfl,rfl,e,ix0,_,rfl,?_⟩;refine k _ _ (ye2 _ (yh1 p)) (yb6 _ p) ⟨n+1,(z / many)::r,cs,x,?_,zf,?_,?_,lc⟩ ?_
     ·rw[zc B];exact d
     ·rw[zc x.symm];exact o
     ·simpa using u
     ·exact l.trans λa I C=>by rw[zc C]
   ·exact⟨rfl,rfl⟩
  rintro σ H3 ⟨rfl,rfl⟩
  -- cell=5;if len(tape[1]) > 0:..
  refine xl (λσ H3=>σ=[some (.ref t),some (.int many),none,some (.int 5),none]/\q=H3) ⟨_,xP (i:=3) uN.nd rfl (Or.inl rfl) zt,rfl,rfl⟩ ?_;rintro σ H3 ⟨rfl,rfl⟩;refine xl (λσ H3=>∃z:Int,σ=[some (.ref t),some (.int many),none,some (.int z),none]/\q=H3)
   ⟨_,ae (vC iY (yL yG (by rfl) T.len ye9 (zp (yy zL (pv 0) zt (λ_ _=>rfl)) zF)) zt (yt _))
    (wF (xP (i:=3) uN.nd rfl (Or.inl rfl) (yy zL (yy zL (pv 0) zt (λ_ _=>rfl)) (yk vS (yy zL (pv 0) zt (λ_ _=>rfl)) (yL yG (by rfl) T.len ye9 (zp (yy zL (pv 0) zt (λ_ _=>rfl)) zF))) (λ_ _=>rfl)))) oS,?_⟩ ?_
  ·refine⟨_,rfl,t,_,1,_,rfl,rfl,SqL.of d,rfl,c,_,rfl,.inl (SqL.of o),_,_,rfl,rfl,_,rfl,?_⟩;refine dz (λJ=>?_) (λ_=>?_)
   ·have S:0<cs.length:=by simpa using J
    have X:(0:Int)<((cs.map V.int).length:Int):=by rw[zX7];omega
    have I:=ye2 (n+1) (yh1 X);have C:=yb6 (n+1) X;obtain⟨j,hj⟩:=z92 I;have R:j<cs.length:=by rw[hj,zX7]at C;omega
    refine⟨_,rfl,t,_,1,_,rfl,rfl,SqL.of d,rfl,_,rfl,t,_,2,_,rfl,rfl,SqL.of d,rfl,_,rfl,t,_,1,_,rfl,rfl,SqL.of d,rfl,c,_,rfl,.inl (SqL.of o),_,_,rfl,rfl,X,c,_,_,V.int cs[j],rfl,rfl,SqL.of o,?_,cs[j],rfl,rfl⟩;rw[hj];exact vv (by rw[zZ1,zY0 R];rfl)
   ·exact⟨5,rfl,rfl⟩
  rintro σ H3 ⟨z,rfl,rfl⟩
  -- the numbers
  refine xl (λσ H3=>∃y:Int,(0<=y/\y<2147483647)/\σ=[some (.ref t),some (.int many),none,some (.int z),some (.int y)]/\q=H3)
   ⟨_,xP (i:=4) uN.nd rfl (Or.inl rfl) (yk vS (yk sX (yk uX (yk uX (yk vS (pv 3) zt) (yk sX zt (yy zL (pv 0) zt (λ_ _=>rfl)))) zt) zt) zt),?_⟩ ?_
  ·exact⟨_,rfl,_,_,rfl,rfl,(by show(0:Int)<999983;decide),_,rfl,t,_,2,_,rfl,rfl,SqL.of d,rfl,_,_,rfl,rfl,.inl ⟨by decide,by decide⟩,_,_,rfl,rfl,_,_,rfl,rfl,_,_,rfl,rfl,.inr ⟨by decide,by decide⟩,_,_,rfl,rfl,(by show(0:Int)<2147483647;decide),
    _,⟨ye2 _ (by decide),yb6 _ (by decide)⟩,rfl,rfl⟩
  rintro σ H3 ⟨y,⟨O,M⟩,rfl,rfl⟩;refine xl (λσ H3=>∃y:Int,(0<=y/\y<2147483647)/\σ=[some (.ref t),some (.int many),none,some (.int z),some (.int y)]/\q=H3)
   ⟨_,xP (i:=4) uN.nd rfl (Or.inl rfl) (yk vS (yk uX (yk uX (yk sX (pv 4) (pv 4)) (yk sX zt (yy zL (pv 0) zt (λ_ _=>rfl)))) zt) zt),?_⟩ ?_
  ·refine⟨_,rfl,_,rfl,_,_,rfl,rfl,.inl ⟨by omega,by omega⟩,_,rfl,t,_,2,_,rfl,rfl,SqL.of d,rfl,_,_,rfl,rfl,.inl ⟨by decide,by decide⟩,_,_,rfl,rfl,_,_,rfl,rfl,_,_,rfl,rfl,(by show(0:Int)<2147483629;decide),
    _,⟨ye2 _ (by decide),Int.lt_trans (yb6 _ (by decide)) (by decide)⟩,rfl,rfl⟩
  rintro σ H3 ⟨y2,⟨O,M⟩,rfl,rfl⟩;refine⟨_,wF (ub (yk vS (yk rF (yk vS (yk sX (yk rF (pv 4) zt) zt) zt) zt) (pv 1))),?_⟩;refine⟨_,rfl,_,_,rfl,rfl,⟨by decide,by decide +kernel⟩,_,_,rfl,rfl,.inr ⟨by decide,by decide⟩,_,_,rfl,rfl,(by show(0:Int)<2147483587;decide),_,_,rfl,rfl,⟨by decide,by decide +kernel⟩,_,rfl,_,_,rfl,rfl,p,?_⟩;exact k _ _ (ye2 _ (yh1 p)) (yb6 _ p) ⟨n+1,g,cs,x,d,e,o,u,lc⟩ l
end
end K94
set_option compiler.extract_closed false
set_option hygiene false in
local macro_rules
 |`(tactic| exists $f,$a)=>`(tactic| first|refine $f 0 $a ?_|refine $f 1 $a ?_|refine $f 2 $a ?_|refine $f 3 $a ?_|refine $f 4 $a ?_|refine $f 5 $a ?_|refine $f 6 $a ?_|refine $f 7 $a ?_|refine $f 8 $a ?_|refine $f 9 $a ?_|refine $f 10 $a ?_|refine $f 11 $a ?_|refine $f 12 $a ?_|refine $f 13 $a ?_|refine $f 14 $a ?_|refine $f 15 $a ?_|refine $f 16 $a ?_|refine $f 17 $a ?_)
 |`(tactic| exists $f)=>`(tactic| with_reducible refine $f ?_)
 |`(tactic| specialize $p)=>`(tactic| with_reducible show $p)
set_option hygiene false in
local macro_rules
 |`(tactic| and_intros)=>`(tactic| repeat (first
  |((specialize EvD _ _ _ _);first
   |((specialize EvD _ _ (.Name _ _) _);exists zj,rfl)
   |((specialize EvD _ _ (.Constant _ _ _) _);first|exists vQ|exists vY|exists zy8|exists si)
   |((specialize EvD _ _ (.BinOp (.Constant (.int 10) _ _) .Pow (.Constant (.int 6) _ _) _) _);refine oP (r:=1000000) ⟨by decide,by decide,by decide⟩ (by decide) ?_)
   |((specialize EvD _ _ (.BinOp (.Constant (.int 10) _ _) .Pow (.Constant (.int 12) _ _) _) _);refine oP (r:=1000000000000) ⟨by decide,by decide,by decide⟩ (by decide) ?_)
   |((specialize EvD _ _ (.BinOp (.Constant (.int 10) _ _) .Pow (.Constant (.int 9) _ _) _) _);refine oP (r:=1000000000) ⟨by decide,by decide,by decide⟩ (by decide) ?_)
   |((specialize EvD _ _ (.BinOp (.Constant (.int 10) _ _) .Pow (.Constant (.int 11) _ _) _) _);refine oP (r:=100000000000) ⟨by decide,by decide,by decide⟩ (by decide) ?_)
   |((specialize EvD _ _ (.BinOp _ .Add (.List _ _) _) _);refine EvL.d (vh ?_))
   |((specialize EvD _ _ (.BinOp (.List _ _) .Add _ _) _);refine EvL.d (vh ?_))
   |((specialize EvD _ _ (.BinOp (.Subscript _ (.Slice _ _ none _) _) .Add _ _) _);refine EvL.d (vh ?_))
   |((specialize EvD _ _ (.BinOp _ .Add (.Subscript _ (.Slice _ _ none _) _) _) _);refine EvL.d (vh ?_))
   |((specialize EvD _ _ (.BinOp (.Call (.Attribute _ "rules" _) _ _ _) .Add _ _) _);refine EvL.d (vh ?_))
   |exists zD4
   |exists zE3
   |exists ev_mod
   |exists ev_fdiv
   |exists ev_mul
   |exists ev_shl
   |exists zG9
   |exists zf6
   |exists ze9
   |((specialize EvD _ _ (.Subscript _ (.Slice _ _ none _) _) _);refine EvL.d (zu5 ?_))
   |((specialize EvD _ _ (.Subscript _ _ _) _);refine aM hr.one (fun _ _=>rfl) ?_)
   |((specialize EvD _ _ (.List _ _) _);refine EvL.d (rQ ?_))
   |((specialize EvD _ _ (.Call (.Name "len" _) [.Call (.Name "set" _) _ _ _] _ _) _);refine ev_lenSet rfl (by rfl) nb.len (by rfl) (by assumption) ?_)
   |((specialize EvD _ _ (.Call (.Name "len" _) _ _ _) _);refine bR (by rfl) nb.len ?_)
   |((specialize EvD _ _ (.Call (.Name "min" _) [_,_] _ _) _);refine zA7 rfl (by rfl) nb.min ?_)
   |((specialize EvD _ _ (.Call (.Name "max" _) [_,_] _ _) _);refine ev_max rfl (by rfl) nb.max ?_)
   |((specialize EvD _ _ (.Call (.Name "list" _) _ _ _) _);refine EvL.d (pL (by rfl) nb.list ?_))
   |((specialize EvD _ _ (.Call (.Name "repr" _) _ _ _) _);refine ev_repr hr.gd hr.units (by rfl) nb.repr ?_)
   |((specialize EvD _ _ (.Call (.Name "min" _) [_] _ _) _);refine ev_minI rfl hr.few (by rfl) nb.min ?_)
   |((specialize EvD _ _ (.Call (.Name "isinstance" _) _ _ _) _);first|refine rW (by rfl) nb.isinstance (by rfl) nb.int boot_int ?_|refine rW (by rfl) nb.isinstance (by rfl) nb.bool boot_bool ?_|refine rW (by rfl) nb.isinstance (by rfl) nb.str boot_str ?_|refine rW (by rfl) nb.isinstance (by rfl) nb.list boot_list ?_|refine rW (by rfl) nb.isinstance (by rfl) nb.tuple boot_tuple ?_)
   |((specialize EvD _ _ (.Call (.Name "int" _) _ _ _) _);refine ev_intB (by rfl) nb.int ?_)
   |((specialize EvD _ _ (.Call (.Name _ _) _ _ _) _);first|refine zo0 (by with_reducible assumption) (by exact⟨rfl,rfl,rfl,rfl,rfl⟩) (hr.mono (by decide)) (by rfl) ?_|refine EvN.d (aC (by with_reducible assumption) (by exact⟨rfl,rfl,rfl,rfl,rfl⟩) (hr.mono (by decide)) (by rfl) ?_))
   |((specialize EvD _ _ (.Call (.Attribute _ _ _) (_::_) _ _) _);refine zb2 (by with_reducible assumption) (by exact⟨rfl,rfl,rfl,rfl,rfl⟩) (hr.mono (by decide)) ?_)
   |((specialize EvD _ _ (.Call (.Attribute _ _ _) [] _ _) _);refine eI (by with_reducible assumption) (by exact⟨rfl,rfl,rfl,rfl,rfl⟩) (hr.mono (by decide)) ?_)
   |((specialize EvD _ _ (.Compare _ [_] _ _) _);first|exists zQ6|exists zM7|exists ev_gt|exists ev_ge|exists zI5|exists ev_notN|((specialize EvD _ _ (.Compare _ [.Eq] _ _) _);refine zF2 hr.units ?_)|((specialize EvD _ _ (.Compare _ [.NotEq] _ _) _);refine zG2 hr.units ?_)|((specialize EvD _ _ (.Compare _ [.In] _ _) _);refine zA9 hr.one ?_)|((specialize EvD _ _ (.Compare _ [.NotIn] _ _) _);refine zh1 hr.one ?_)|((specialize EvD _ _ (.Compare _ [.Is] [.Constant (.bool _) _ _] _) _);refine ev_isB ?_))
   |((specialize EvD _ _ (.Compare _ [_,_] _ _) _);first|refine ev_lelt ?_|refine ev_ltle ?_|refine bh ?_)
   |((specialize EvD _ _ (.BoolOp _ _ _) _);first|exists zF9|exists zK8|exists zD5)
   |exists kq)
  |((specialize EvA _ _ _ _);first
   |exists zH
   |((specialize EvA _ _ (.Name "_law_tape_here" _::_) _);exists zm0,rfl)
   |refine zq ?_)
  |((specialize EvT _ _ _ _);first
   |((specialize EvT _ _ (.Compare _ [_] _ _) _);first|exists zK0|exists et_le|exists zx3|exists et_ge|exists oR|exists zr5|((specialize EvT _ _ (.Compare _ [.Eq] _ _) _);refine zF3 hr.units ?_)|((specialize EvT _ _ (.Compare _ [.NotEq] _ _) _);refine zJ4 hr.units ?_)|((specialize EvT _ _ (.Compare _ [.In] _ _) _);refine zF5 hr.one ?_)|((specialize EvT _ _ (.Compare _ [.NotIn] _ _) _);refine zg7 hr.one ?_)|((specialize EvT _ _ (.Compare _ [.Is] [.Constant (.bool _) _ _] _) _);refine et_isB ?_)|((specialize EvT _ _ (.Compare _ [.IsNot] [.Constant (.bool _) _ _] _) _);refine et_isntB ?_))
   |((specialize EvT _ _ (.Compare _ [_,_] _ _) _);first|refine et_lelt ?_|refine et_ltle ?_|refine et_lele' ?_)
   |exists zc3
   |((specialize EvT _ _ (.BoolOp _ _ _) _);exists EvW.t)
   |refine mw ?_)
  |((specialize EvL _ _ _ _);first
   |exists rQ
   |((specialize EvL _ _ (.Call (.Name "list" _) _ _ _) _);refine pL (by rfl) nb.list ?_)
   |((specialize EvL _ _ (.Call (.Name _ _) _ _ _) _);refine zg8 (by with_reducible assumption) (by exact⟨rfl,rfl,rfl,rfl,rfl⟩) (hr.mono (by decide)) (by rfl) ?_)
   |((specialize EvL _ _ (.Call (.Attribute _ _ _) [] _ _) _);refine el_meth0R (by with_reducible assumption) (by exact⟨rfl,rfl,rfl,rfl,rfl⟩) (hr.mono (by decide)) ?_)
   |((specialize EvL _ _ (.Subscript _ (.Slice _ _ none _) _) _);refine zu5 ?_)
   |((specialize EvL _ _ (.BinOp _ .Add _ _) _);refine vh ?_))
  |((specialize EvW _ _ _ _);first
   |exists dI
   |exists zR1
   |exists gg
   |exists zJ5)
  |((specialize EvO _ _ _ _);first
   |exists zi4
   |exists zp0)
  |((specialize ju _ _ _);first
   |refine ixk rfl rfl rfl ?_
   |refine zS6 ?_
   |refine ixk_1 ?_)
  |((specialize og _ _ _ _);first
   |refine ink rfl rfl ?_
   |refine aV ?_
   |refine inkT rfl rfl ?_)
  |((specialize oE _ _ _);first
   |exists zm3
   |exists zn6
   |exists cp
   |refine eqk rfl rfl rfl rfl ?_)
  |((specialize SvS _ _ _ _);first
   |((specialize SvS _ (List.set _ _ _) _ _);dsimp only[List.set])
   |((specialize SvS _ _ (zr _) _);show SvS _ _ (_::_) _)
   |((specialize SvS _ _ (.Assign [.Name _ _] (.List [] _) _::_) _);exists xO,nd)
   |((specialize SvS _ _ (.Assign [.Name _ _] _ _::_) _);exists yj,nd)
   |((specialize SvS _ _ (.Expr (.Call (.Attribute _ "append" _) _ _ _) _::_) _);exists qP,rfl)
   |((specialize SvS _ _ (.Return (some (.Name _ _)) _::_) _);exists wH,rfl)
   |exists xR
   |exists sv_cont
   |exists sv_pass
   |exists uq
   |exists zS
   |((with_reducible refine uE ?hk ?_);case hk=>first|rfl|decide +kernel)
   |((with_reducible refine uB ?hk ?_);case hk=>first|rfl|decide +kernel))
  |((specialize wG _ _);refine⟨_,rfl,by first|decide|omega,by first|decide|(show _<big;unfold big;omega),fun _ _ _=>?_⟩)
  |((with_reducible refine zs6 ?hk ?_);case hk=>first|rfl|decide +kernel)
  |((with_reducible refine zS1 ?hk ?_);case hk=>first|rfl|decide +kernel)
  |refine⟨_,_,rfl,rfl,?_⟩
  |refine⟨_,_,_,rfl,rfl,rfl,?_⟩
  |refine⟨_,rfl,z56 rfl,?_⟩
  |refine⟨_,rfl,rfl,?_⟩
  |refine⟨_,rfl,?_⟩))
namespace K94
open PySem PySem.Spec PyProof.Rows L2
abbrev bG :Stmt:=top 3
abbrev iz :Stmt:=top 4
abbrev zt6 :Stmt:=top 5
abbrev zP9 :Stmt:=top 6
abbrev zw2 :Stmt:=top 7
abbrev mG :Stmt:=top 8
abbrev zu2 :Stmt:=inClass (top 27) 0
abbrev zu6 :Stmt:=inClass (top 27) 2
abbrev aF :Stmt:=inClass (top 27) 3
abbrev zr3 :Stmt:=inClass (top 28) 0
abbrev zH8 :Stmt:=inClass (top 29) 0
abbrev zV9 :Stmt:=inClass (top 30) 0
abbrev zg5 :Stmt:=inClass (top 31) 0
abbrev zD3 :Stmt:=inClass (top 32) 0
abbrev zI0 :Stmt:=inClass (top 33) 0
abbrev zL0 :Stmt:=inClass (top 34) 0
abbrev zd8 :Stmt:=top 36
abbrev iX :Stmt:=top 37
abbrev zc1 :Stmt:=top 38
abbrev iZ :Stmt:=top 39
abbrev zw5 :Stmt:=top 40
abbrev iM :Stmt:=top 41
theorem mR (d:PyData):zP (.str "price") d=(isNone d||rp d):=rfl
theorem jk (d:PyData):zP (.str "come") d=isBool d:=rfl
theorem dG (d:PyData):zP (.str "go") d=isBool d:=rfl
theorem nG (d:PyData):zP (.str "least") d=yW 1 14 d:=rfl
theorem kg (d:PyData):zP (.str "most") d=yW 1 14 d:=rfl
theorem jt (d:PyData):zP (.str "deal") d=(isNone d||sr d):=rfl
theorem fR (d:PyData):zP (.str "fee") d=rp d:=rfl
theorem zC {lo hi:Int}{d:PyData}(h:yW lo hi d=true):∃i,d=.int i/\lo<=i/\i<=hi:=by
 cases d with
 |int i=>exact⟨i,rfl,z68 (z88.mp h).1,z68 (z88.mp h).2⟩
 |_=>cases h
theorem bool_inv {d:PyData}(h:isBool d=true):∃b,d=.bool b:=by
 cases d with
 |bool b=>exact⟨b,rfl⟩
 |_=>cases h
theorem uO {d:PyData}(h:sr d=true):∃m f:Int,d=.tuple [.int m,.int f]/\2<=m/\m<=14/\1<=f/\f<=m-1:=by
 unfold sr at h;split at h
 ·obtain⟨g,a⟩:=z88.mp h;obtain⟨_,rfl,j,i⟩:=zC a;obtain⟨_,e,b,c⟩:=zC g;cases e;exact⟨_,_,rfl,b,c,j,i⟩
 ·cases h
theorem none_or {d:PyData}{p:Bool}(h:(isNone d||p)=true):d=.none\/p=true:=by
 cases d with
 |none=>exact .inl rfl
 |_=>exact .inr h
theorem xw {d:PyData}(h:xM d=true):∃(s:Str) (i j:Int) (v:PyData),s∈words/\d=.tuple [.str s,.int i,.int j,v]/\0<=i/\i<=j/\j<=1000000/\zP (.str s) v=true:=by
 obtain⟨s,a,b,v,o,rfl⟩:=tf h;obtain⟨c,g⟩:=z88.mp (show(vo (.tuple [a,b])&&zP (.str s) v)=true from h);unfold vo zC6 at c;split at c
 ·rename_i k e;split at e
  ·rename_i z;cases z;split at e
   ·rename_i q;cases e;obtain⟨n,l⟩:=z88.mp q;obtain⟨_,e1,f,a1⟩:=zC n;obtain⟨_,p,b0,m⟩:=zC l;cases e1;cases p;have:=z68 c;exact⟨s,_,_,v,o,rfl,f,by omega,m,g⟩
   ·cases e
  ·cases e
 ·cases c
theorem ua {s:Str}{v:PyData}(a:s∈words)(h:zP (.str s) v=true):v.hasDict=false/\noL v=true:=by
 have w:∀{lo hi:Int},yW lo hi v=true->v.hasDict=false/\noL v=true:=λz=>by obtain⟨_,rfl,_⟩:=zC z;exact⟨rfl,rfl⟩
 have b:isBool v=true->v.hasDict=false/\noL v=true:=λz=>by obtain⟨_,rfl⟩:=bool_inv z;exact⟨rfl,rfl⟩
 simp only[words,zY4,zZ8,z32]at a;rcases a with rfl|rfl|rfl|rfl|rfl|rfl|rfl
 ·rcases none_or h with rfl|h
  ·exact⟨rfl,rfl⟩
  ·exact w h
 ·exact b h
 ·exact b h
 ·exact w h
 ·exact w h
 ·rcases none_or h with rfl|h
  ·exact⟨rfl,rfl⟩
  ·obtain⟨_,_,rfl,_⟩:=uO h;exact⟨rfl,rfl⟩
 ·exact w h
def zx8 :Ph:=λas Q=>∃i:Int,as=[.dat (.int i)]/\Q (.dat (.bool true))
def cD :Ph:=λas Q=>∃i lo hi:Int,as=[.dat (.int i),.dat (.int lo),.dat (.int hi)]/\lo<=i/\i<=hi/\Q (.dat (.bool true))
def zC1 :Ph:=λas Q=>∃i j:Int,as=[.dat (.tuple [.int i,.int j])]/\Q (.dat (.bool true))
def zJ9 :Ph:=λas Q=>∃i:Int,as=[.dat (.int i)]/\0<=i/\i<=1000000/\Q (.dat (.bool true))
def zk9 :Ph:=λas Q=>∃i j:Int,as=[.dat (.tuple [.int i,.int j])]/\0<=i/\i<=j/\j<=1000000/\Q (.dat (.bool true))
def zT3 :Ph:=λas Q=>∃d,as=[.dat d]/\rp d=true/\Q (.dat (.bool true))
def zR5 :Ph:=λas Q=>∃d,as=[.dat d]/\sr d=true/\Q (.dat (.bool true))
def zL3 :Ph:=λas Q=>∃s d,as=[.dat (.str s),.dat d]/\s∈words/\zP (.str s) d=true/\Q (.dat (.bool true))
def zN7 :Ph:=λas Q=>∃d,as=[.dat d]/\xM d=true/\Q (.dat (.bool true))
section
variable {P:Program}{w:World}{K:PySem.W.Frag}{mg:Str->Option Value}{base:Heap}{cs:Cs}
theorem zn8 (F:FnD K mg "is_whole" bG ["thing"])(nb:NbT mg):Cal P w K mg base "is_whole" 1 zx8:=by
 refine zZ ["thing"] F λ_ _ _ _ _ _ _ _ Q nd hr h=>?_;obtain⟨i,rfl,q⟩:=h;and_intros;exact q
theorem kO (F:FnD K mg "is_whole_within" iz ["thing","lowest","highest"])(c:Cal P w K mg base "is_whole" 1 zx8):Cal P w K mg base "is_whole_within" 2 cD:=by
 refine zZ ["thing","lowest","highest"] F λ_ _ _ _ _ _ _ _ Q nd hr h=>?_;obtain⟨i,lo,hi,rfl,b,a,q⟩:=h;and_intros;refine zs6 (z28 b) ?_;and_intros;rw[z28 a];exact q
theorem ba (F:FnD K mg "is_pair" zt6 ["thing"])(nb:NbT mg):Cal P w K mg base "is_pair" 1 zC1:=by
 refine zZ ["thing"] F λ_ _ _ _ _ _ _ _ Q nd hr h=>?_;obtain⟨i,j,rfl,q⟩:=h;and_intros;exact q
theorem eV (F:FnD K mg "is_day" zP9 ["thing"])(gl:∃t,mg "LAST_DAY"=some (.int 1000000 t))(c:Cal P w K mg base "is_whole_within" 2 cD):Cal P w K mg base "is_day" 3 zJ9:=by
 refine zZ ["thing"] F λ_ _ _ _ _ _ _ _ Q nd hr h=>?_;obtain⟨i,rfl,b,a,q⟩:=h;and_intros;exact xZ (by rfl) gl (zH ⟨_,_,_,rfl,b,a,q⟩)
theorem di (F:FnD K mg "is_pair_of_days" zw2 ["thing"])(d:Cal P w K mg base "is_pair" 1 zC1)(e:Cal P w K mg base "is_day" 3 zJ9):Cal P w K mg base "is_pair_of_days" 4 zk9:=by
 refine zZ ["thing"] F λ_ _ _ _ _ _ _ _ Q nd hr h=>?_;obtain⟨i,j,rfl,a,c,b,q⟩:=h;and_intros;refine⟨_,_,rfl,?_⟩;and_intros;refine⟨a,by omega,?_⟩;and_intros;exact⟨by omega,b,q⟩
theorem nj (F:FnD K mg "is_stretch" mG ["thing"])(d:Cal P w K mg base "is_pair_of_days" 4 zk9):Cal P w K mg base "is_stretch" 5 zk9:=by
 refine zZ ["thing"] F λ_ _ _ _ _ _ _ _ Q nd hr h=>?_;obtain⟨i,j,rfl,b,a,c,q⟩:=h;and_intros;refine⟨_,_,rfl,b,a,c,?_⟩;and_intros;rw[z28 a];exact q
theorem mq (F:FnD K mg "is_coins" zd8 ["thing"])(gl:∃t,mg "MOST_COINS"=some (.int 1000000000000 t))(c:Cal P w K mg base "is_whole_within" 2 cD):Cal P w K mg base "is_coins" 3 zT3:=by
 refine zZ ["thing"] F λ_ _ _ _ _ _ _ _ Q nd hr h=>?_;obtain⟨d,rfl,h,q⟩:=h;obtain⟨i,rfl,b,a⟩:=zC h;and_intros;exact xZ (by rfl) gl (zH ⟨_,_,_,rfl,b,a,q⟩)
theorem kI (F:FnD K mg "is_deal" iX ["thing"])(gl:∃t,mg "MOST_NIGHTS"=some (.int 14 t))(g:Cal P w K mg base "is_pair" 1 zC1)(i:Cal P w K mg base "is_whole_within" 2 cD):Cal P w K mg base "is_deal" 3 zR5:=by
 refine zZ ["thing"] F λ_ _ _ _ _ _ _ _ Q nd hr h=>?_;obtain⟨d,rfl,h,q⟩:=h;obtain⟨m,f,rfl,b,a,e,c⟩:=uO h;and_intros;refine⟨_,_,rfl,?_⟩;and_intros;refine xZ (by rfl) gl (zH ⟨_,_,_,rfl,b,a,?_⟩);and_intros;exact⟨_,_,_,rfl,e,c,q⟩
theorem mj (F:FnD K mg "is_worth" zc1 ["word","thing"])(nb:NbT mg)(gl:∃t,mg "MOST_NIGHTS"=some (.int 14 t))(j:Cal P w K mg base "is_whole_within" 2 cD)(g:Cal P w K mg base "is_coins" 3 zT3)(k:Cal P w K mg base "is_deal" 3 zR5):Cal P w K mg base "is_worth" 4 zL3:=by
 refine zZ ["word","thing"] F λ_ _ _ _ _ _ _ _ Q nd hr h=>?_;obtain⟨s,d,rfl,e,h,q⟩:=h;simp only[words,zY4,zZ8,z32]at e;rcases e with rfl|rfl|rfl|rfl|rfl|rfl|rfl
 ·rcases none_or h with rfl|h
  ·and_intros;exact q
  ·obtain⟨i,rfl,_⟩:=zC h;and_intros;exact⟨h,q⟩
 ·obtain⟨b,rfl⟩:=bool_inv h;and_intros;exact q
 ·obtain⟨b,rfl⟩:=bool_inv h;and_intros;exact q
 ·obtain⟨i,rfl,c,a⟩:=zC h;and_intros;exact xZ (by rfl) gl (zH ⟨_,_,_,rfl,c,a,q⟩)
 ·obtain⟨i,rfl,c,a⟩:=zC h;and_intros;exact xZ (by rfl) gl (zH ⟨_,_,_,rfl,c,a,q⟩)
 ·rcases none_or h with rfl|h
  ·and_intros;exact q
  ·obtain⟨m,f,rfl,_⟩:=uO h;and_intros;exact⟨h,q⟩
 ·and_intros;exact⟨h,q⟩
theorem kQ (F:FnD K mg "is_rule" iZ ["thing"])(nb:NbT mg)(k:Cal P w K mg base "is_stretch" 5 zk9)(g:Cal P w K mg base "is_worth" 4 zL3):Cal P w K mg base "is_rule" 6 zN7:=by
 refine zZ ["thing"] F λ_ _ _ _ _ _ _ _ Q nd hr h=>?_;obtain⟨d,rfl,h,q⟩:=h;obtain⟨s,i,j,v,b,rfl,e,c,f,a⟩:=xw h;have hf:=(ua b a).1;and_intros;refine⟨true,by simp[PyData.hasDict,PyData.hasDictAll,hf],rfl,?_⟩;and_intros;refine⟨_,_,rfl,e,c,f,?_⟩;and_intros;exact⟨_,_,rfl,b,a,q⟩
def tE (C:Addr)(a b v:PyData):PyData:=wV C [(.str "first",a),(.str "last",b),(.str "worth",v)]
def uH (cs:Cs):PyData->PyData
 |.tuple [.str w,a,b,v]=>tE (cs.of w) a b v
 |_=>.none
def nJ (C:Addr):Ph:=λas Q=>∃a b v,as=[.dat a,.dat b,.dat v]/\noL a=true/\noL b=true/\noL v=true/\Q (.dat (tE C a b v))
def zN5 (cs:Cs):Ph:=λas Q=>∃s a b v,as=[.dat (.str s),.dat a,.dat b,.dat v]/\s∈words/\noL a=true/\noL b=true/\noL v=true/\Q (.dat (tE (cs.of s) a b v))
def lQ (cs:Cs):Ph:=λas Q=>∃d,as=[.dat d]/\xM d=true/\Q (.dat (uH cs d))
def jG (C:Addr)(w:Str):Ph:=λas Q=>∃a b v,as=[.dat (tE C a b v)]/\Q (.dat (.tuple [.str w,a,b,v]))
def oW (C:Addr)(w:Str):Ph:=λas Q=>∃a b v,as=[.dat (tE C a b v)]/\Q (.dat (.str w))
def sC (C:Addr):Ph:=λas Q=>∃(a b day:Int) (v:PyData),as=[.dat (tE C (.int a) (.int b) v),.dat (.int day)]/\Q (.dat (.bool (decide (a<=day)&&decide (day<=b))))
theorem dO (F:FnD K mg "made" zw5 ["word","first","last","worth"])(e:ud P w K mg base "Price" 1 [] (nJ cs.price))(k:ud P w K mg base "Come" 1 [] (nJ cs.come))(j:ud P w K mg base "Go" 1 [] (nJ cs.go))(i:ud P w K mg base "Least" 1 [] (nJ cs.least))(g:ud P w K mg base "Most" 1 [] (nJ cs.most))(f:ud P w K mg base "Deal" 1 [] (nJ cs.deal))(l:ud P w K mg base "Fee" 1 [] (nJ cs.fee)):Cal P w K mg base "made" 3 (zN5 cs):=by
 refine zZ ["word","first","last","worth"] F λ_ _ _ _ _ _ _ _ Q nd hr h=>?_;obtain⟨s,a,b,v,rfl,c,ha,hb,d,q⟩:=h;simp only[words,zY4,zZ8,z32]at c;rcases c with rfl|rfl|rfl|rfl|rfl|rfl|rfl<;>and_intros<;>exact⟨_,_,_,rfl,ha,hb,d,q⟩
theorem kJ (F:FnD K mg "rule_of" iM ["thing"])(CR:Cal P w K mg base "is_rule" 6 zN7)(g:Cal P w K mg base "made" 3 (zN5 cs)):Cal P w K mg base "rule_of" 7 (lQ cs):=by
 refine zZ ["thing"] F λ_ _ _ _ _ _ _ _ Q nd hr h=>?_;obtain⟨d,rfl,h,q⟩:=h;obtain⟨s,i,j,v,a,rfl,e,c,f,b⟩:=xw h;and_intros;refine⟨h,?_⟩;and_intros;exact⟨_,_,_,_,rfl,a,rfl,rfl,(ua a b).2,q⟩
theorem yR {x:Str}{C f fT fE fW:Addr}{fd:FuncData}(R:tO K C f fT fE fW)(hm:mg x=some (.ref C))(F:Fun K "__init__" "Rule.__init__" zu2 f fd)(hb:Binds K fd ["self","first","last","worth"] []):ud P w K mg base x 1 [] (nJ C):=by
 refine⟨C,f,fd,_,[],hm,R.makes,hb,.nil,F.ok (N:=["self","first","last","worth"]) .o (λvs H Q E h=>?_) (λcdv A outer s H vs Q E hr h=>?_)⟩
 ·obtain⟨_,as,_,_,_,_,_,rfl,_,_,_,_,_,_,_,c,⟨a,b,v,rfl,_⟩,_⟩:=h;exact congrArg (·+1) c.length
 ·obtain⟨G,as,S,p,dx,vs',H1,rfl,g,L,hn,rfl,rfl,t,o,c,⟨a,b,v,rfl,n1,D,I,q⟩,r⟩:=h;cases c with
  |cons B c=>cases c with
   |cons O c=>cases c with
    |cons J c=>
     cases c;rename_i x y z;refine⟨_,zy (nc (pv 0) (pv 1) rfl) (zy (nc (pv 0) (pv 2) rfl) (wF (nc (pv 0) (pv 3) rfl))),_,rfl,_,rfl,p,C,dx,[],rfl,zf,R.cl,R.nf,(by decide:0<1000),_,rfl,_,rfl,p,C,dx,_,rfl,zf,R.cl,R.nl,(show 1<1000 by decide),_,rfl,_,rfl,p,C,dx,xV "last" y (xV "first" x []),rfl,zf,R.cl,R.nw,(show 2<1000 by decide),?_⟩;show Q .non _;rw[uh,uh,uh];have i:zw G.H0 (upd (upd G.H0 dx (.own p)) p (.ins C dx (zQ1 x y z))):=λa o e=>by rw[zc (zh e g),zc (zh e L)];exact e
     have k:∀{u:V} {d:PyData},AV (sub (λy=>¬G.O0 y) G.H0) u d->noL d=true->AV (sub (λy=>¬G.O0 y/\∀xs,G.H0 y≠some (.lst xs)) (upd (upd G.H0 dx (.own p)) p (.ins C dx (zQ1 x y z)))) u d:=λh n=>h.noL (λa o M e=>by
      obtain⟨e1,j⟩:=zb e;exact zu ⟨e1,λxs m=>by rw[j]at m;cases m;exact M trivial⟩ (i _ _ j)) n
     refine r _ _ q ⟨t.same i,Kz.of_same i,.ins (zu ⟨λe=>?_,λxs e=>by rw[g]at e;cases e⟩ zf) (.cons (k B n1) (.cons (k O D) (.cons (k J I) .nil)))⟩;obtain⟨u,l,_⟩:=o p e;rw[g]at l;cases l
theorem yU {C f fI fT fE:Addr}{fd:FuncData}{c d:Str}{st:Stmt}{j:Nat}{p1 p2:Pos}(R:tO K C fI fT fE f)(F:Fun K "word" d st f fd)(hb:Binds K fd ["self"] [])(S:zI ["self"] ["self"] (zd st))(e:zr st=[.Return (some (.Constant (.str c) j p1)) p2]):xC P w K mg base C "word" 1 (oW C c):=by
 refine lh ["self"] R.cl R.word F hb (λ_ _ _ _ _ _ _ Q nd hr h=>?_) S;obtain⟨a,b,v,rfl,q⟩:=h;rw[e];exact xR (vY q)
theorem yP {C f fI fE fW:Addr}{fd:FuncData}{c:Str}(R:tO K C fI f fE fW)(F:Fun K "told" "Rule.told" zu6 f fd)(hb:Binds K fd ["self"] [])(W:xC P w K mg base C "word" 1 (oW C c)):xC P w K mg base C "told" 2 (jG C c):=by
 refine lh ["self"] R.cl R.told F hb λ_ _ _ _ _ _ _ Q nd hr h=>?_;obtain⟨a,b,v,rfl,q⟩:=h;and_intros;exact⟨_,_,_,rfl,zq (wY R.cl R.nf (zj 0 rfl ⟨_,_,rfl,rfl,zq (wY R.cl R.nl (zj 0 rfl ⟨_,_,rfl,rfl,zq (wY R.cl R.nw (zj 0 rfl ⟨_,_,rfl,rfl,zH ⟨_,rfl,z56 rfl,q⟩⟩))⟩))⟩))⟩
theorem yq {C f fI fT fW:Addr}{fd:FuncData}(R:tO K C fI fT f fW)(F:Fun K "tells" "Rule.tells" aF f fd)(hb:Binds K fd ["self","day"] []):xC P w K mg base C "tells" 1 (sC C):=by
 refine lh ["self","day"] R.cl R.tells F hb λ_ _ _ _ _ _ _ Q nd hr h=>?_;obtain⟨a,b,day,v,rfl,q⟩:=h;and_intros;refine wY R.cl R.nf (zj 0 rfl ⟨_,_,rfl,rfl,?_⟩);and_intros;refine tu (λz=>?_) (λz=>?_)
 ·rw[z,yg3]at q;exact wY R.cl R.nl (zj 0 rfl ⟨_,_,rfl,rfl,_,rfl,q⟩)
 ·rw[z,yb8]at q;exact q
end
abbrev zv8 :Stmt:=top 45
abbrev xj :Stmt:=inClass (top 44) 0
abbrev uA :Stmt:=inClass (top 44) 1
abbrev iw :Stmt:=inClass (top 44) 2
abbrev cV :Stmt:=top 35
def yb (C:Addr)(cs:Cs)(ds:List PyData):PyData:=wV C [(.str "kept",.list (ds.map (uH cs)))]
def Rules (ds:List PyData):Prop:=∀d∈ds,xM d=true/\SeqAt.shaped d=true/\d.hasDict=false
def bW (cs:Cs):Ph:=λas Q=>∃ds,as=[.dat (.list ds)]/\Rules ds/\ds.length<=24/\Q (.own (ds.map (uH cs)))
def uS (C:Addr)(cs:Cs):Ph:=λas Q=>∃ds,(as=[.dat (.list ds)]\/(as=[.dat .none]/\ds=[]))/\Rules ds/\ds.length<=24/\Q (.dat (yb C cs ds))
def iL (C:Addr)(cs:Cs):Ph:=λas Q=>∃ds,as=[.dat (yb C cs ds)]/\Rules ds/\ds.length<=1000/\Q (.own ds)
theorem vR {cs:Cs}{d:PyData}(h:xM d=true):∃(s:Str) (a b v:PyData),s∈words/\d=.tuple [.str s,a,b,v]/\uH cs d=tE (cs.of s) a b v:=by
 obtain⟨s,a,b,v,c,rfl⟩:=tf h;exact⟨s,a,b,v,c,rfl,rfl⟩
def cz :Scope:=match zr uA with
 |[.Return (some (.ListComp _ _ sc _)) _]=>sc
 |_=>zd uA
def tbU :List (Str×V):=[("price",.non),("come",.bl true),("go",.bl true),("least",.int 1),("most",.int 14),("deal",.non),("fee",.int 0)]
def dD (x:Str):PyData:=if x="price"\/x="deal" then .none else if x="come"\/x="go" then .bool true else if x="least" then .int 1 else if x="most" then .int 14 else .int 0
theorem zH3 {x:Str}(h:x∈words):∃v,tbU.lookup x=some v/\scV (dD x)=some v:=by
 simp only[words,zY4,zZ8,z32]at h;rcases h with rfl|rfl|rfl|rfl|rfl|rfl|rfl
 ·exact⟨.non,by decide +kernel,by decide +kernel⟩
 ·exact⟨.bl true,by decide +kernel,by decide +kernel⟩
 ·exact⟨.bl true,by decide +kernel,by decide +kernel⟩
 ·exact⟨.int 1,by decide +kernel,by decide +kernel⟩
 ·exact⟨.int 14,by decide +kernel,by decide +kernel⟩
 ·exact⟨.non,by decide +kernel,by decide +kernel⟩
 ·exact⟨.int 0,by decide +kernel,by decide +kernel⟩
def tJ (w:Str)(day:Int):PyData->Bool
 |.tuple [.str x,.int a,.int b,_]=>decide (x=w)&&(decide (a<=day)&&decide (day<=b))
 |_=>false
def iN :PyData->PyData
 |.tuple [_,_,_,v]=>v
 |_=>.none
def zi (ds:List PyData)(w:Str)(day:Int):PyData:=match ds.reverse.find? (tJ w day)with
 |some d=>iN d
 |none=>dD w
theorem sH {p:PyData->Bool}{e:PyData}:∀{l:List PyData}{i:Nat},(∀j<i,∀d,l[j]?=some d->p d=false)->l[i]?=some e->p e=true->l.find? p=some e
 |[],i,_,h,_=>by simp at h
 |d::l,0,_,h,q=>by
  simp at h;subst h;simp[z60,q]
 |d::l,i+1,a,h,q=>by
  have hd:=a 0 (ye4 _) d rfl;rw[z60,hd];exact sH (i:=i) (λj b x c=>a (j+1) (Nat.succ_lt_succ b) x (by simpa using c)) (by simpa using h) q
theorem zn1 {p:PyData->Bool}{l:List PyData}(h:∀(j:Nat) d,l[j]?=some d->p d=false):l.find? p=none:=by
 rw[yb7];intro x a;obtain⟨j,b⟩:=List.mem_iff_getElem?.mp a;rw[h j x b];simp
def ip :List A->(A->Prop)->Prop:=λas Q=>∃x,as=[.dat (.str x)]/\x∈words/\Q (.dat (dD x))
def vt (C:Addr)(cs:Cs):List A->(A->Prop)->Prop:=λas Q=>∃ds x day,as=[.dat (yb C cs ds),.dat (.str x),.dat (.int day)]/\Rules ds/\x∈words/\Q (.dat (zi ds x day))
section
variable {P:Program}{w:World}{K:PySem.W.Frag}{mg:Str->Option Value}{base:Heap}{cs:Cs}
theorem zd4 (F:FnD K mg "kept_rules" zv8 ["things"])(nb:NbT mg)(g:∃t,mg "MOST_RULES"=some (.int 24 t))(j:Cal P w K mg base "rule_of" 7 (lQ cs)):Cal P w K mg base "kept_rules" 8 (bW cs):=by
 refine zZ ["things","kept","number","thing","rule"] F λ_ _ _ _ _ _ _ _ Q nd hr h=>?_;obtain⟨ds,rfl,k,m,q⟩:=h;and_intros;refine zX (.many [2,3]) (uj (by rfl) nb.enumerate (zj 0 rfl (⟨_,rfl,?_⟩)));refine zK (λi α=>∃v2 c v4,α=[some (.dat (.list ds)),some (.own ((ds.take i).map (uH cs))),v2,c,v4]) ⟨none,none,none,rfl⟩ ?_ ?_
 ·rintro i d α hd ⟨v2,c,v4,rfl⟩;obtain⟨e,he,rfl⟩:=xv hd;have f:=(k e (z23 he)).1;have hi:=(zX9.mp he).1;obtain⟨s',a,b,v,n,rfl,l⟩:=vR (cs:=cs) f;have e:(ds.take (i+1)).map (uH cs)=(ds.take i).map (uH cs)++[uH cs (.tuple [.str s',a,b,v])]:=by
   rw[z45,he,z39];rfl
  rw[e];refine⟨_,rfl,?_⟩;and_intros;refine⟨f,?_⟩;and_intros;refine⟨by rw[zX7,z46];omega,?_⟩;and_intros;exact⟨_,_,_,rfl⟩
 ·rintro α ⟨v2,c,v4,rfl⟩;rw[xX,z40];refine uq (vD 1 rfl (zx3 (bR (by rfl) nb.len (zj 1 rfl ⟨_,rfl,xZ (by rfl) g ⟨_,_,rfl,rfl,?_⟩⟩))));refine uB (z06 ?_) ?_
  ·rw[zX7];omega
  ·and_intros;exact q
theorem ny {ds:List PyData}(g:Rules ds):xQ (ds.map (uH cs))=true:=by
 induction ds with
 |nil=>rfl
 |cons d r i=>
  have e:=i λx h=>g x (zY6 _ h);have f:=(g d zY9).1;obtain⟨s',a,b,v,l,rfl,k⟩:=vR (cs:=cs) f;obtain⟨_,_,_,_,c,j,_,_,_,hw⟩:=xw f;cases j;have z3:=(ua c hw).2;rw[z03,k];simp only[xQ,e,Bool.and_true];simp[tE,wV,noL,sE,z3]
theorem zU2 :zI ["self","rules"] ["self","rules"] (zd xj):=.o
theorem dM {f C:Addr}{dV:Value}{fd:FuncData}(F:zH1 K "__init__" "Book.__init__" xj dV f fd)(c:Cls K C)(na:yw K C "kept")(b:Cal P w K mg base "kept_rules" 8 (bW cs)):yn P w K mg base CX0 9 f fd ["self","rules"] (spI C (uS C cs)):=by
 refine zN6 (N:=[]) F zU2 c na rfl (λas Q h=>?_) (λcdv g outer s H E as Q hr h=>?_) (λ_ _ _ _ _ _=>rfl) (Or.inl rfl)
 ·obtain⟨ds,h|⟨h,_⟩,_⟩:=h<;>rw[h]<;>rfl
 ·obtain⟨ds,h|⟨h,hz⟩,a,e,q⟩:=h
  ·subst h;exact vW b hr (by rfl) (zq (kq (oR (zj 1 rfl (oC (zj 1 rfl (zH ⟨_,rfl,a,e,_,rfl,ny a,q⟩)))))))
  ·subst h hz;exact vW b hr (by rfl) (zq (kq (oR (zj 1 rfl (oM (EvL.d (rQ (zH ⟨_,rfl,z56 rfl,zH ⟨[],rfl,a,e,_,rfl,ny a,q⟩⟩))))))))
theorem zT4 :zM ["self"] (zd uA) ["rule"] [none] cz:=⟨rfl,by decide +kernel,by decide +kernel,by decide +kernel,by decide +kernel,rfl,by decide +kernel⟩
theorem js {f C:Addr}{fd:FuncData}(c:Cls K C)(na:yw K C "kept")(l:Meth K C "rules" f)(F:Fun K "rules" "Book.rules" uA f fd)(hb:Binds K fd ["self"] [])(O:∀g∈words,xC P w K mg base (cs.of g) "told" 2 (jG (cs.of g) g)):xC P w K mg base C "rules" 3 (iL C cs):=by
 refine lh ["self"] c l F hb λ_ _ _ _ _ _ _ Q nd hr h=>?_;obtain⟨ds,rfl,k,m,q⟩:=h;refine vB (zw8 (pat:=.one 0) rfl zT4 rfl (λ_ _ _ _=>yc (i:=0) zT4.nd rfl (Or.inl rfl)) (zQ (wY c na (zj 0 rfl ⟨_,_,rfl,rfl,⟨_,rfl,by rw[zX7];exact m,?comp⟩⟩))))
 case comp=>
  refine gU (λi acc=>acc=ds.take i) rfl ?_ (λacc h=>?_)
  ·rintro i d acc hd rfl;rw[zZ1,zZ6]at hd;obtain⟨e,he,rfl⟩:=hd;obtain⟨s',a,b,v,n,rfl,o⟩:=vR (cs:=cs) (k e (z23 he)).1;refine⟨_,rfl,λC s2 j fp=>aQ ?_⟩;rw[if_pos rfl];refine λC s2 j fp=>rV (O s' n) hr (zj 0 rfl ⟨_,rfl,rfl,_,_,_,rfl,?_⟩);show ds.take i++[_]=ds.take (i+1);rw[z45,he];rfl
  ·rw[zX7,z40]at h;rw[h];exact q
theorem fY {a:Addr}(F:FnD K mg "usual" cV ["word"])(c:mg "USUAL"=some (.ref a))(d:iu K w a tbU):Cal P w K mg base "usual" 1 ip:=by
 refine zZ ["word"] F λ_ _ _ _ _ _ _ _ Q nd hr h=>?_;obtain⟨x,rfl,e,q⟩:=h;obtain⟨v,f,b⟩:=zH3 e;exact xR (aJ (by rfl) c d (zj 0 rfl ⟨x,dD x,v,rfl,f,b,q⟩))
theorem lV {f C:Addr}{fd:FuncData}(c:Cls K C)(na:yw K C "kept")(A:Meth K C "tells_of" f)(F:Fun K "tells_of" "Book.tells_of" iw f fd)(hb:Binds K fd ["self","word","day"] [])(nb:NbT mg)(r:Cal P w K mg base "usual" 1 ip)(s:∀u∈words,xC P w K mg base (cs.of u) "word" 1 (oW (cs.of u) u))(D:∀u∈words,xC P w K mg base (cs.of u) "tells" 1 (sC (cs.of u)))
  (o:∀u∈words,Cls K (cs.of u)/\yw K (cs.of u) "worth"):xC P w K mg base C "tells_of" 2 (vt C cs):=by
 refine lh ["self","word","day","rule"] c A F hb λ_ _ _ _ _ _ _ Q nd hr h=>?_;obtain⟨ds,x,day,rfl,y,B,q⟩:=h;refine zX (.one 3) (zH6 (by rfl) nb.reversed (wY c na (zj 0 rfl ⟨_,_,rfl,rfl,⟨_,rfl,?_⟩⟩)));refine zK (λi α=>(∃m,α=[some (.dat (yb C cs ds)),some (.dat (.str x)),some (.dat (.int day)),m])/\∀j<i,∀d,ds.reverse[j]?=some d->tJ x day d=false) ⟨⟨none,rfl⟩,λj p=>absurd p (Nat.not_lt_zero _)⟩ ?_ ?_
 ·rintro i d α hd ⟨⟨m,rfl⟩,hno⟩;rw[<-List.map_reverse,zZ1,zZ6]at hd;obtain⟨e,he,rfl⟩:=hd;have n:e∈ds:=yb0.mp (z23 he);obtain⟨u,a,b,v,l,rfl,_,_,_,_⟩:=xw (y e n).1;refine⟨_,rfl,?_⟩;refine uq (EvW.t (zp5 (λ_ k=>zF6 (rV (s u l) hr (zj 3 rfl ⟨_,rfl,rfl,_,_,_,rfl,zj 1 rfl ⟨_,_,rfl,rfl,k⟩⟩)))
   (λE _ k=>gg (bq (pS (D u l) hr (zj 3 rfl ⟨_,rfl,rfl,zq (zj 2 rfl (zH ⟨_,_,_,_,rfl,_,rfl,k⟩))⟩)))) ?_))
  refine xm (λh=>?_) (λh=>?_)
  ·refine xR (wY (o u l).1 (o u l).2 (zj 3 rfl ⟨_,_,rfl,rfl,?_⟩));have e1:ds.reverse.find? (tJ x day)=some (.tuple [.str u,.int a,.int b,v]):=sH hno he h;unfold zi at q;rw[e1]at q;exact q
  ·refine zS (zS ⟨⟨_,rfl⟩,λj p d' g=>?_⟩);rcases z97 j i with z|z
   ·exact hno j z d' g
   ·have:j=i:=by omega
    subst this;rw[he]at g;cases g;exact h
 ·rintro α ⟨⟨m,rfl⟩,hno⟩;refine xR (pN r (hr.mono (by decide)) (by rfl) (zq (zj 1 rfl (zH ⟨x,rfl,B,?_⟩))));have e1:ds.reverse.find? (tJ x day)=none:=zn1 λj d hd=>hno j (by
   have:=(zX9.mp hd).1;rw[z80,zX7]
   rwa [z80]at this) d hd
  unfold zi at q;rw[e1]at q;exact q
end
structure wZ (d:PyData):Prop where
 rule:xM d=true
 nice:zT 20011 d
 dep:d.depth<=2
 wn:zT 5000 (iN d)
def zv (ds:List PyData):Prop:=∀d∈ds,wZ d
theorem qA {s:Str}(h:s∈words):zT 2000 (.str s):=by
 simp only[words,zY4,zZ8,z32]at h;rcases h with rfl|rfl|rfl|rfl|rfl|rfl|rfl<;>exact⟨rfl,rfl,zZ4 _,by decide +kernel,by decide +kernel⟩
theorem wZ.of {s:Str}{i j:Int}{d:PyData}(f:s∈words)(g:0<=i)(h:i<=j)(k:j<=1000000)(hw:zP (.str s) d=true)(hn:zT 5000 d)(hd:d.depth<=1):wZ (.tuple [.str s,.int i,.int j,d]):=by
 have c:(1000001:Int)<big:=by decide
 have b:-big<(0:Int):=by decide
 have na:zY 5000 [.str s,.int i,.int j,d]:=by
  constructor
  ·intro x a;simp only[zY4,zZ8,z32]at a;rcases a with rfl|rfl|rfl|rfl
   ·exact(qA f).mono (by decide)
   ·exact(zT.int (by omega) (by omega)).mono (by decide)
   ·exact(zT.int (by omega) (by omega)).mono (by decide)
   ·exact hn
  ·intro x a;simp only[zY4,zZ8,z32]at a;rcases a with rfl|rfl|rfl|rfl
   ·exact zZ4 _
   ·exact zZ4 _
   ·exact zZ4 _
   ·omega
 refine⟨?_,zT.tuple na (by show 4*(5000+2)+3<=20011;decide),?_,hn⟩
 ·show(vo (.tuple [.int i,.int j])&&zP (.str s) d)=true;rw[hw,Bool.and_true];unfold vo zC6;have e:(eE (.int i)&&eE (.int j))=true:=by
   show((decide (0<=i)&&decide (i<=1000000))&&(decide (0<=j)&&decide (j<=1000000)))=true;simp only[z21,z44];omega
  simp only[e,yb2,z44];omega
 ·simp only[PyData.depth,PyData.depthAll];omega
theorem zv.rules {ds:List PyData}(h:zv ds):Rules ds:=λd hd=>⟨(h d hd).rule,(h d hd).nice.shaped,(h d hd).nice.nod⟩
theorem zv.nice {ds:List PyData}(h:zv ds)(a:ds.length<=100):zT sizeLine (.list ds):=by
 refine zT.list (n:=20011) ⟨λd hd=>(h d hd).nice,λd hd=>by have:=(h d hd).dep;omega⟩ ?_;have b:ds.length*(20011+2)<=100*(20011+2):=Nat.mul_le_mul_right _ a;have c:100*(20011+2)+2<=sizeLine:=by decide
 omega
theorem pZ {ds:List PyData}{lo hi:Option Int}{d:PyData}(h:d∈L2.cutD ds lo hi):d∈ds:=by
 unfold L2.cutD at h;exact List.mem_of_mem_drop (List.mem_of_mem_take h)
theorem jV {ds:List PyData}{lo hi:Option Int}:(L2.cutD ds lo hi).length<=ds.length:=by
 unfold L2.cutD;rw[z46,yg5];omega
abbrev iK :Stmt:=top 65
abbrev iy :Stmt:=top 66
abbrev iW :Stmt:=top 67
abbrev jQ :Stmt:=top 68
abbrev ie :Stmt:=top 69
theorem within_int {lo hi i:Int}(b:lo<=i)(a:i<=hi):yW lo hi (.int i)=true:=by
 show(decide (lo<=i)&&decide (i<=hi))=true;rw[z28 b,z28 a];rfl
theorem xB {i:Int}(h0:-2000000000000<=i)(a:i<=2000000000000):zT 2000 (.int i):=zT.int (by unfold big;omega) (by unfold big;omega)
theorem zv.nil :zv []:=λx a=>by simp at a
theorem zv.app {ds a:List PyData}(h:zv ds)(h':zv a):zv (ds++a):=λd hd=>(z01.mp hd).elim (h d) (h' d)
theorem zv.snoc {ds:List PyData}{d:PyData}(h:zv ds)(hd:wZ d):zv (ds++[d]):=h.app λx a=>by rw[zY2.mp a];exact hd
def Bd (bs a:Int):Prop:=0<=bs/\bs<=999980/\1<=a/\a<=14
def oj :Ph:=λas Q=>as=[.tape]/\∀z:Int,0<=z->z<=1000000000000->Q (.dat (.int z))
def mJ :Ph:=λas Q=>∃a,as=[.tape,.dat (.str a)]/\a∈words/\∀d,zP (.str a) d=true->zT 5000 d->d.depth<=1->Q (.dat d)
def nE :Ph:=λas Q=>∃bs a:Int,as=[.tape,.dat (.int bs),.dat (.int a)]/\Bd bs a/\∀ds,zv ds->1<=ds.length+1->ds.length<=5->Q (.own ds)
def ma :Ph:=λas Q=>∃bs a:Int,as=[.tape,.dat (.int bs),.dat (.int a)]/\Bd bs a/\∀ds,zv ds->1<=ds.length->ds.length<=5->Q (.own ds)
def nH :Ph:=λas Q=>∃bs a:Int,as=[.tape,.dat (.int bs),.dat (.int a)]/\Bd bs a/\∀ds,zv ds->1<=ds.length->ds.length<=10->Q (.dat (.list ds))
section
variable {P:Program}{w:World}{K:PySem.W.Frag}{mg:Str->Option Value}{base:Heap}
theorem eS (F:FnD K mg "_law_coins" iK ["_law_tape_here"])(a:Cal P w K mg base "_law_draw" 1 wG):Cal P w K mg base "_law_coins" 2 oj:=by
 refine zZ ["_law_tape_here"] F λ_ _ _ _ _ _ _ _ Q nd hr h=>?_;obtain⟨rfl,q⟩:=h;and_intros;refine tS rfl (by assumption) (by assumption) ?_
 repeat refine⟨q _ (by omega) (by omega),?_⟩
 trivial
theorem gk (F:FnD K mg "_law_worth" iy ["_law_tape_here","_law_word"])(u:Cal P w K mg base "_law_draw" 1 wG)(t:Cal P w K mg base "_law_coins" 2 oj):Cal P w K mg base "_law_worth" 3 mJ:=by
 refine zZ ["_law_tape_here","_law_word","_law_many"] F λ_ _ _ _ _ _ _ _ Q nd hr h=>?_;obtain⟨i,rfl,hw,q⟩:=h;have g:∀z:Int,0<=z->z<=1000000000000->zP (.str i) (.int z)=true->Q (.dat (.int z)):=λz a b h=>q _ h ((xB (by omega) (by omega)).mono (by decide)) (zZ4 _);have l:zP (.str i) .none=true->Q (.dat .none):=λh=>q _ h (zT.none.mono (by decide)) (zZ4 _);have k:∀b,zP (.str i) (.bool b)=true->Q (.dat (.bool b)):=λb h=>q _ h ((zT.bool _).mono (by decide)) (zZ4 _);have r:∀m f:Int,i="deal"->2<=m->m<=14->1<=f->f<m->Q (.dat (.tuple [.int m,.int f])):=λm f e a b c d=>by
  subst e;exact q _ (z88.mpr ⟨within_int a b,within_int c (by omega)⟩) (zT.tuple (n:=2000) (zY.two (xB (by omega) (by omega)) (xB (by omega) (by omega)) (zZ4 _) (zZ4 _)) (by show 2*(2000+2)+3<=5000;decide)) (zY1 _)
 simp only[words,zY4,zZ8,z32]at hw;rcases hw with rfl|rfl|rfl|rfl|rfl|rfl|rfl<;>and_intros
 ·refine⟨rfl,λs a1 j=>?_⟩;and_intros;refine⟨rfl,λp a2 o=>?_⟩;and_intros;exact tS rfl (by assumption) (by assumption) ⟨l rfl,g s a1 j (within_int a1 j),g p a2 o (within_int a2 o),trivial⟩
 ·exact k _ rfl
 ·exact k _ rfl
 ·exact g _ (by omega) (by omega) (within_int (by omega) (by omega))
 ·exact g _ (by omega) (by omega) (within_int (by omega) (by omega))
 ·refine tS rfl (by assumption) (by assumption) ⟨l rfl,?_⟩
  repeat refine⟨r _ _ rfl (by omega) (by omega) (by omega) (by omega),?_⟩
  trivial
 ·refine⟨rfl,λz a b=>?_⟩;exact g z a b (within_int a b)
theorem kL (F:FnD K mg "_law_price_rules" iW ["_law_tape_here","_law_base","_law_days"])(nb:NbT mg)(A:Cal P w K mg base "_law_draw" 1 wG)(C:Cal P w K mg base "_law_coins" 2 oj):Cal P w K mg base "_law_price_rules" 3 ma:=by
 refine zZ ["_law_tape_here","_law_base","_law_days","_law_found","_law_k","_law_first","_law_worth_here"] F λ_ _ _ _ _ _ _ _ Q nd hr h=>?_;obtain⟨bs,o,rfl,⟨t,z,v,y⟩,q⟩:=h;have e:∀{c:Int},0<=c->c<=1000000000000->zP (.str "price") (.int c)=true/\zT 5000 (.int c)/\(PyData.int c).depth<=1:=λa b=>⟨within_int a b,(xB (by omega) (by omega)).mono (by decide),zZ4 _⟩;refine xO 3 nd ?_;and_intros;refine⟨rfl,λB p1 g=>?_⟩;and_intros;refine zX (.one 4) (xY (by rfl) nb.range ?_);and_intros;refine⟨by omega,by omega,?_⟩;refine zK (λi α=>∃v4 f v6 ds,α=[some .tape,some (.dat (.int bs)),some (.dat (.int o)),some (.own ds),v4,f,v6]/\zv ds/\1<=ds.length/\ds.length<=1+i) ⟨none,none,none,_,rfl,zv.nil.snoc (wZ.of (by simp[words]) (by omega) (by omega) (by omega) (e p1 g).1 (e p1 g).2.1 (e p1 g).2.2),zY1 _,zY1 _⟩ ?_ ?_
 ·rintro i d α hd ⟨v4,f,v6,ds,rfl,j,l1,ld⟩;have hi:=(zX9.mp hd).1;rw[zX7,zk]at hi;refine⟨_,rfl,?_⟩;and_intros;refine⟨rfl,λD p5 m=>?_⟩;and_intros;refine⟨rfl,λE p6 p=>?_⟩;and_intros;refine⟨rfl,λu k n=>?_⟩;and_intros;refine dQ (λd=>zP (.str "price") d=true/\zT 5000 d/\d.depth<=1) rfl (by assumption) (by assumption) ⟨⟨rfl,zT.none.mono (by decide),zZ4 _⟩,e p5 m,e p6 p,e k n,trivial⟩ ?_;rintro x ⟨s,r,l⟩;and_intros;refine⟨by omega,?_⟩;and_intros;exact⟨_,_,_,_,rfl,j.snoc (wZ.of (by simp[words]) (by omega) (by omega) (by omega) s r l),by simp,by simp;omega⟩
 ·rintro α ⟨v4,f,v6,ds,rfl,j,l1,ld⟩;rw[zX7,zk]at ld;exact wH 3 rfl (q ds j l1 (by omega))
theorem jA (F:FnD K mg "_law_other_rules" jQ ["_law_tape_here","_law_base","_law_days"])(nb:NbT mg)(r:Cal P w K mg base "_law_draw" 1 wG)(n:Cal P w K mg base "_law_worth" 3 mJ):Cal P w K mg base "_law_other_rules" 4 nE:=by
 refine zZ ["_law_tape_here","_law_base","_law_days","_law_found","_law_k","_law_word","_law_first"] F λ_ _ _ _ _ _ _ _ Q nd hr h=>?_;obtain⟨bs,f,rfl,⟨j,m,k,l⟩,q⟩:=h;and_intros;refine zX (.one 4) (xY (by rfl) nb.range ?_);and_intros;refine⟨by omega,by omega,?_⟩;refine zK (λi α=>∃v4 b v6 ds,α=[some .tape,some (.dat (.int bs)),some (.dat (.int f)),some (.own ds),v4,b,v6]/\zv ds/\ds.length<=i) ⟨none,none,none,_,rfl,zv.nil,zY1 _⟩ ?_ ?_
 ·rintro i d α hd ⟨v4,b,v6,ds,rfl,a,ld⟩;have hi:=(zX9.mp hd).1;rw[zX7,zk]at hi;refine⟨_,rfl,?_⟩;and_intros;refine dQ (λd=>∃x,d=.str x/\x∈words) rfl (by assumption) (by assumption) ?_ ?_
  ·repeat refine⟨⟨_,rfl,by simp[words]⟩,?_⟩
   trivial
  rintro _ ⟨p,rfl,hw⟩;and_intros;refine⟨hw,λo g e c=>?_⟩;and_intros;refine⟨by omega,?_⟩;and_intros;exact⟨_,_,_,_,rfl,a.snoc (wZ.of hw (by omega) (by omega) (by omega) g e c),by simp;omega⟩
 ·rintro α ⟨v4,b,v6,ds,rfl,a,ld⟩;rw[zX7,zk]at ld;exact wH 3 rfl (q ds a (by omega) (by omega))
theorem jq (F:FnD K mg "_law_rules" ie ["_law_tape_here","_law_base","_law_days"])(j:Cal P w K mg base "_law_draw" 1 wG)(g:Cal P w K mg base "_law_price_rules" 3 ma)(f:Cal P w K mg base "_law_other_rules" 4 nE):Cal P w K mg base "_law_rules" 5 nH:=by
 refine zZ ["_law_tape_here","_law_base","_law_days","_law_ones","_law_others"] F λ_ _ _ _ _ _ _ _ Q nd hr h=>?_;obtain⟨bs,i,rfl,bd,q⟩:=h;refine yj 3 nd ?_;and_intros;refine⟨_,_,rfl,bd,λc a k1 l1=>yj 4 nd ?_⟩;and_intros;refine⟨_,_,rfl,bd,λe b _ l2=>?_⟩;refine xR (aM hr.one (λ_ _=>rfl) (EvL.d (rQ (zq (EvL.d (vh (zj 3 rfl (zj 4 rfl ⟨_,_,rfl,rfl,by omega,zq (EvL.d (vh (zj 4 rfl (zj 3 rfl ⟨_,_,rfl,rfl,by omega,?_⟩))))⟩))))))));and_intros;exact tS rfl (by assumption) (by assumption) ⟨q _ (a.app b) (by simp;omega) (by simp;omega),q _ (b.app a) (by simp;omega) (by simp;omega),trivial⟩
end
abbrev iH :Stmt:=top 9
def vn :Ph:=λas Q=>∃c g:Int,as=[.dat (.tuple [.int c,.int g])]/\-100<=c/\c<g/\g<=c+500/\c<=1000100/\Q (.own ((zx c (g-c).toNat).map .int))
section
variable {P:Program}{w:World}{K:PySem.W.Frag}{mg:Str->Option Value}{base:Heap}{cs:Cs}
theorem jm (F:FnD K mg "nights_of" iH ["stay"])(nb:NbT mg):Cal P w K mg base "nights_of" 1 vn:=by
 refine zZ ["stay"] F λ_ _ _ _ _ _ _ _ Q nd hr h=>?_;obtain⟨c,g,rfl,b,a,e,d,q⟩:=h;exact vB (zf5 rfl (by rfl) nb.list (by rfl) nb.range (pX (λ_ _=>rfl) (zj 0 rfl (vQ (⟨_,_,_,rfl,rfl,rfl,pX (λ_ _=>rfl) (zj 0 rfl (vQ (⟨_,_,_,rfl,rfl,rfl,⟨_,_,rfl,rfl,⟨by omega,by omega,by omega,by omega⟩,by omega,q⟩⟩)))⟩)))))
end
abbrev yB :Stmt:=top 48
def qX :Arguments×Scope:=match zr yB with
 |[.Return (some (.Call _ _ [⟨_,.Lambda ps _ sc _,_⟩] _)) _]=>(ps,sc)
 |_=>(zN yB,zd yB)
section
variable {P:Program}{w:World}{K:PySem.W.Frag}{mg:Str->Option Value}{base:Heap}
theorem zi8 :zI ["prices","places"] ["prices","places"] (zd yB):=.o
theorem zM9 :wj "place" "prices" qX.1 qX.2:=⟨rfl,rfl,rfl,rfl,rfl,by decide +kernel,by decide +kernel,by decide⟩
theorem zD9 {f c:Addr}{a:Around}{outer:List Env}{s:Shared}{H:Hp}{E:XK}{n1:Nat}{p1 p2 p3 p4 p5 p6:Pos}(hhd:PySem.W.codeHdIn K c yi=true)(b:K.In base)(hbi:base.BuiltinsAt mg yi):
  aO (xp CX0 P w K mg base ["prices","places"] "cheapest_first" (zd yB) f (.ref c) a outer s H E).nox c "place" "prices" n1 p1 p2 p3 p4 p5 p6 qX.1 qX.2 where
 S:=zM9
 hy:=rfl
 hcl:=λcl h=>by
  have e:qX.2.names=[(("prices":Str),NameKind.free),(("place":Str),NameKind.local)]\/qX.2.names=[(("place":Str),NameKind.local),(("prices":Str),NameKind.free)]:=by decide +kernel
  unfold closureFor;rcases e with e|e<;>rw[e]<;>simp[cellOf,h]
 hgl:=rfl
 hco:=rfl
 hhd:=PySem.W.codeHd_of_K b hhd
 hbi:=hbi
 hdf:=rfl
 hq:=rfl
 hne:=by decide
 hb:=λu cl c' pm ctv=>rfl
 hdx:=by decide
 hdy:=by decide
 hcx:=by decide
 hcy:=by decide
def oO :Ph:=λas Q=>∃ns zs:List Int,as=[.dat (.list (zs.map .int)),.dat (.list (ns.map .int))]/\ns.length<64/\(∀n∈ns,0<=n/\n<zs.length)/\∀ms,aB ns zs ms->Q (.own (ms.map .int))
theorem fM {f c:Addr}{oc:Value}{od an:Option Addr}{osl:Array (Option Value)}{kV doc pm ct:Value}(i:K.lookup f=some ⟨oc,od,.func (PySem.W.fnOf "cheapest_first" "cheapest_first" (zN yB) (zr yB) (zd yB) .none kV doc pm an (.ref c) ct),osl⟩)(b:PySem.W.codeIn K (.ref c) "cheapest_first"=true)(kp:PySem.W.keepIn K (.ref f)=true)
  (hm:mg "cheapest_first"=some (.ref f)) (hb:Binds K (PySem.W.fnOf "cheapest_first" "cheapest_first" (zN yB) (zr yB) (zd yB) .none kV doc pm an (.ref c) ct) ["prices","places"] []) (nb:NbT mg) (hhd:PySem.W.codeHdIn K c yi=true) (g:K.In base) (hbi:base.BuiltinsAt mg yi):Cal P w K mg base "cheapest_first" 3 oO:=by
 refine⟨f,_,_,hm,kp,hb,zV4 i b zi8 (λas Q h=>by obtain⟨ns,zs,rfl,_⟩:=h;rfl) λl outer s H E as Q hr h=>?_⟩;obtain⟨ns,zs,rfl,d,a,q⟩:=h;exact vB (jC (j:=0) (k:=0) (zD9 hhd g hbi) hr (by rfl) nb.sorted rfl (zj 1 rfl ⟨ns,zs,rfl,rfl,d,a,λms e=>q ms e⟩))
end
abbrev jN :Stmt:=top 49
def rM :Ph:=λas Q=>∃(zs:List Int) (d:PyData),as=[.dat (.list (zs.map .int)),.dat d]/\zs.length<=500/\du d/\∀bs:List Bool,bs.length=zs.length->Q (.own (bs.map .bool))
theorem eu (ns:List Int):xQ (ns.map .int)=true:=by
 induction ns with
 |nil=>rfl
 |cons n ns a=>rw[z03,xQ,a];rfl
section
variable {P:Program}{w:World}{K:PySem.W.Frag}{mg:Str->Option Value}{base:Heap}
theorem kD (F:FnD K mg "marked" jN ["prices","deal"])(nb:NbT mg)(o:Cal P w K mg base "cheapest_first" 3 oO):Cal P w K mg base "marked" 4 rM:=by
 refine zZ ["prices","deal","marks","bundle","place","rank","other"] F λ_ _ l _ _ _ _ _ Q nd hr h=>?_;obtain⟨zs,d,rfl,hlen,h,q⟩:=h;refine ji 2 ["price"] [none] (.one 0) (zQ (zj 0 rfl ⟨_,rfl,by rw[zX7];omega,yu (λ_=>.bool false) (λ_ _=>⟨_,rfl,λ_ _ _ _ _ k=>zy8 k⟩) ?_⟩));rw[z37,show zs.map (λ_=>PyData.bool false)=(zs.map λ_=>false).map .bool by simp];have a:(zs.map λ_=>false).length=zs.length:=by simp
 generalize (zs.map λ_=>false)=bs at a;rcases h with rfl|⟨many,free,rfl,f0,fm,g⟩<;>and_intros
 ·exact q bs a
 refine zX (.one 4) (xY (by rfl) nb.range ?_);and_intros;refine⟨by omega,by rw[zX7];omega,?_⟩;refine zK (λi α=>∃(bs:List Bool) (ns:List Int) (f c b:Option A),bs.length=zs.length/\ns.length<many/\(∀n∈ns,0<=n/\n<zs.length)/\α=[some (.dat (.list (zs.map .int))),some (.dat (.tuple [.int many,.int free])),some (.own (bs.map .bool)),some (.own (ns.map .int)),f,c,b]) ⟨bs,[],none,none,none,a,by simp;omega,by simp,rfl⟩ ?_ ?_
 ·rintro i d α hd ⟨bs,ns,f,c,b,a,ln,hn,rfl⟩;rw[zZ1,zZ6]at hd;obtain⟨z,hz,rfl⟩:=hd;have hz:=yX.mp (z23 hz);rw[zX7]at hz;refine⟨_,rfl,qP 3 rfl (zj 4 rfl ⟨by rw[zX7];omega,?_⟩)⟩;have hn:∀n∈ns++[z],0<=n/\n<zs.length:=λn h=>by
   rcases z01.mp h with h|h
   ·exact hn n h
   ·rw[zY2.mp h];omega
  rw[show ns.map PyData.int++[PyData.int z]=(ns++[z]).map .int by simp];have ln:(ns++[z]).length<=many:=by simp;omega
  generalize ns++[z]=ns at hn ln;refine uq (vD 3 rfl ?_);and_intros;refine xm (λh=>?_) λh=>?_
  ·refine zX (.many [5,6]) (uj (by rfl) nb.enumerate (EvL.d (oo 3 rfl ?_)));and_intros;refine⟨ns,zs,rfl,by omega,hn,λms j=>⟨_,rfl,eu ms,_,rfl,?_⟩⟩;refine zK (λr α=>∃(bs:List Bool) (p5 p6:Option A),bs.length=zs.length/\α=[some (.dat (.list (zs.map .int))),some (.dat (.tuple [.int many,.int free])),some (.own (bs.map .bool)),some (.own (ns.map .int)),some (.dat (.int z)),p5,p6]) ⟨bs,c,b,a,rfl⟩ ?_ ?_
   ·rintro r d α hd ⟨bs,p5,p6,a,rfl⟩;obtain⟨e,he,rfl⟩:=xv hd;rw[zZ1,zZ6]at he;obtain⟨m,hm,rfl⟩:=he;have hm:=hn m (j.1.mem_iff.mp (z23 hm));refine⟨_,rfl,dR 2 rfl ?_⟩;and_intros;refine⟨_,m.toNat,rfl,?_,zS ⟨bs.set m.toNat (decide (((0+r:Nat):Int)<(free:Int))),_,_,by rw[z31,a],by rw[List.map_set]<;>rfl⟩⟩;unfold ixN;rw[if_pos hm.1,if_pos (by rw[zX7];omega)]
   ·rintro α ⟨bs,p5,p6,a,rfl⟩;and_intros;exact⟨bs,[],_,_,_,a,by simp;omega,by simp,rfl⟩
  ·have h:=of_decide_eq_false h;and_intros;exact⟨bs,ns,_,_,_,a,by simp at h;omega,hn,rfl⟩
 ·rintro α ⟨bs,ns,f,c,b,a,_,_,rfl⟩;and_intros;exact q bs a
end
abbrev mK :Stmt:=top 53
abbrev zL9 :Stmt:=top 54
abbrev zK4 :Stmt:=top 55
theorem eY {x:Str}(h:x∈words):zP (.str x) (dD x)=true:=by
 simp only[words,zY4,zZ8,z32]at h;rcases h with rfl|rfl|rfl|rfl|rfl|rfl|rfl<;>decide +kernel
theorem yr {ds:List PyData}(h:∀d∈ds,xM d=true){x:Str}(b:x∈words)(day:Int):zP (.str x) (zi ds x day)=true:=by
 unfold zi;split
 ·rename_i d e;obtain⟨u,i,j,v,c,rfl,_,_,_,hw⟩:=xw (h d (yb0.mp (ya5 e)));have:=yh9 e;have a:(decide (u=x)&&(decide (i<=day)&&decide (day<=j)))=true:=this;rw[z21,z44]at a;rw[<-a.1];exact hw
 ·exact eY b
def isF :PyData->Bool
 |.bool b=>!b
 |_=>false
def intOf :PyData->Int
 |.int i=>i
 |_=>0
section
variable {ds:List PyData}(h:∀d∈ds,xM d=true)(day:Int)
include h
theorem zf8 :∃b,zi ds "come" day=.bool b:=bool_inv (by rw[<-jk];exact yr h (by simp[words]) day)
theorem zP6 :∃b,zi ds "go" day=.bool b:=bool_inv (by rw[<-dG];exact yr h (by simp[words]) day)
theorem oy :∃i,zi ds "least" day=.int i/\1<=i/\i<=14:=zC (by rw[<-nG];exact yr h (by simp[words]) day)
theorem kM :∃i,zi ds "most" day=.int i/\1<=i/\i<=14:=zC (by rw[<-kg];exact yr h (by simp[words]) day)
theorem zT5 :∃i,zi ds "fee" day=.int i/\0<=i/\i<=1000000000000:=zC (by
 have:=yr h (x:="fee") (by simp[words]) day;rw[fR]at this;exact this)
theorem zi0 :zi ds "price" day=.none\/∃i,zi ds "price" day=.int i/\0<=i/\i<=1000000000000:=by
 have:=yr h (x:="price") (by simp[words]) day;rw[mR,yb4]at this;rcases this with z|z
 ·left;cases e:zi ds "price" day with
  |none=>rfl
  |_=>rw[e]at z;cases z
 ·exact .inr (zC z)
end
def pB (x:Str)(d:Int):PyData:=.tuple [.str x,.int d]
def xN (ds:List PyData)(c:Int)(n:Nat):List PyData:=((zx c n).filter λz=>xE (zi ds "price" z)).map (pB "price")
def opt (b:Bool)(d:PyData):List PyData:=if b=true then [d]else []
def vb (ds:List PyData)(c g:Int):List PyData:=xN ds c (g-c).toNat++opt (isF (zi ds "come" c)) (pB "come" c)++opt (isF (zi ds "go" g)) (pB "go" g)++opt (decide (g-c<intOf (zi ds "least" c))) (pB "least" c)++opt (decide (intOf (zi ds "most" c)<g-c)) (pB "most" c)
theorem uD (b:Bool)(d:PyData):(opt b d).length<=1:=by unfold opt;split<;>simp
theorem tw (ds:List PyData)(c:Int)(n:Nat):(xN ds c n).length<=n:=by
 unfold xN;rw[zX7];have:=z57 (λz=>xE (zi ds "price" z)) (zx c n);rw[zk]at this;exact this
def ao (C:Addr)(cs:Cs):Ph:=λas Q=>∃ds c g,as=[.dat (yb C cs ds),.dat (.tuple [.int c,.int g])]/\Rules ds/\-100<=c/\c<g/\g<=c+100/\c<=1000100/\Q (.own (vb ds c g))
def zl9 :Scope:=match zr mK with
 |[_,_,.Assign _ (.ListComp _ _ sc _) _,_,_,_,_,_]=>sc
 |_=>zd mK
section
variable {P:Program}{w:World}{K:PySem.W.Frag}{mg:Str->Option Value}{base:Heap}{cs:Cs}
theorem zM3 :zM ["book","stay","come","go","told"] (zd mK) ["night","book"] [none,some 0] zl9:=⟨rfl,by decide +kernel,by decide +kernel,by decide +kernel,by decide +kernel,rfl,by decide +kernel⟩
theorem nX (ds:List PyData)(ns:List Int)(f:PyData->Bool)(hf:∀z,f (.int z)=xE (zi ds "price" z))(g:PyData->PyData)(hg:∀z,g (.int z)=pB "price" z):((ns.map PyData.int).filter f).map g=(ns.filter λz=>xE (zi ds "price" z)).map (pB "price"):=by
 rw[List.filter_map,z55];have e1:(f∘PyData.int)=λz=>xE (zi ds "price" z):=funext hf;have a:(g∘PyData.int)=pB "price":=funext hg;rw[e1,a]
def zR3 :PyData->Int
 |.int z=>z
 |_=>0
abbrev pV (C:Addr)(cs:Cs)(ds:List PyData)(c g:Int)(l:List PyData):List (Option A):=[some (.dat (yb C cs ds)),some (.dat (.tuple [.int c,.int g])),some (.dat (.int c)),some (.dat (.int g)),some (.own l)]
theorem zd2 {C:Addr}(F:FnD K mg "bars" mK ["book","stay"])(t:Cal P w K mg base "nights_of" 1 vn)(r:xC P w K mg base C "tells_of" 2 (vt C cs)):Cal P w K mg base "bars" 3 (ao C cs):=by
 refine zZ ["book","stay","come","go","told"] F λ_ _ _ _ _ _ _ _ Q nd hr h=>?_;obtain⟨ds,c,g,rfl,a,v,cg,g1,x,q⟩:=h;have n:∀d∈ds,xM d=true:=λd hd=>(a d hd).1;refine yj 2 nd (pX (λ_ _=>rfl) (zj 1 rfl (vQ (⟨_,_,_,rfl,rfl,rfl,?_⟩))));refine yj 3 nd (pX (λ_ _=>rfl) (zj 1 rfl (vQ (⟨_,_,_,rfl,rfl,rfl,?_⟩))));refine vc (·=pV C cs ds c g (xN ds c (g-c).toNat)) ?_ ?_
 ·refine zv5 4 (pat:=.one 0) nd rfl zM3 rfl (λ_ _ _ _=>yc (i:=0) zM3.nd rfl (by first|exact Or.inl rfl|exact Or.inr rfl)) (zQ (EvL.d (vW t (hr.mono (by decide)) (by rfl) (zq (zj 1 rfl (zH (⟨c,g,rfl,by omega,by omega,by omega,by omega,⟨_,rfl,⟨_,rfl,⟨by rw[zX7,zk];omega,?comp⟩⟩⟩⟩)))))))
  case comp=>
   refine sL (λd=>xE (zi ds "price" (zR3 d))) (λd=>pB "price" (zR3 d)) (λd hd=>?_) ?_
   ·obtain⟨z,_,rfl⟩:=z74.mp hd;refine⟨_,rfl,λC s2 s fp Q k=>xW (oR (pS r hr (zj 1 rfl ⟨_,rfl,rfl,zq (vY (zq (zj 0 rfl (zH ⟨ds,_,_,rfl,a,by simp[words],k⟩))))⟩))),λ_ C s2 s fp Q k=>ze9 (zq (vY (zq (zj 0 rfl (zH (⟨_,rfl,z56 rfl,k⟩))))))⟩
   ·refine zS ?_;rw[z37,nX ds _ _ (λ_=>rfl) _ (λ_=>rfl)];rfl
 rintro α rfl;have u:=tw ds c (g-c).toNat;obtain⟨j,f⟩:=zf8 n c;obtain⟨o,m⟩:=zP6 n g;obtain⟨e,p,_,_⟩:=oy n c;obtain⟨im,em,_,_⟩:=kM n c;have B:∀(l:List PyData) (b:Bool) (d:PyData) (k:Nat),l.length<=k->(l++opt b d).length<=k+1:=λl b d k h=>by have:=uD b d;rw[zZ9];omega
 have l1:=B _ (isF (zi ds "come" c)) (pB "come" c) _ u;have l2:=B _ (isF (zi ds "go" g)) (pB "go" g) _ l1;have l3:=B _ (decide (g-c<intOf (zi ds "least" c))) (pB "least" c) _ l2;unfold vb at q;rw[f,m,p,em]at q;rw[f,m,p]at l3;rw[f,m]at l2;rw[f]at l1;refine vc (·=pV C cs ds c g (xN ds c (g-c).toNat++opt (isF (.bool j)) (pB "come" c))) ?_ ?_
 ·and_intros;refine⟨ds,_,_,rfl,a,by simp[words],⟨j,by rw[f];rfl,?_⟩⟩;cases j<;>and_intros
  ·exact⟨by omega,zS (zS rfl)⟩
  ·exact congrArg (pV C cs ds c g) (z51 _).symm
 rintro α rfl;generalize xN ds c (g-c).toNat++opt (isF (.bool j)) (pB "come" c)=acc at *;refine vc (·=pV C cs ds c g (acc++opt (isF (.bool o)) (pB "go" g))) ?_ ?_
 ·and_intros;refine⟨ds,_,_,rfl,a,by simp[words],⟨o,by rw[m];rfl,?_⟩⟩;cases o<;>and_intros
  ·exact⟨by omega,zS (zS rfl)⟩
  ·exact congrArg (pV C cs ds c g) (z51 _).symm
 rintro α rfl;generalize acc++opt (isF (.bool o)) (pB "go" g)=acc at *;refine vc (·=pV C cs ds c g (acc++opt (decide (g-c<e)) (pB "least" c))) ?_ ?_
 ·and_intros;refine⟨ds,_,_,rfl,a,by simp[words],⟨_,e,rfl,p,?_⟩⟩;generalize decide (g-c<e)=b;cases b<;>and_intros
  ·exact congrArg (pV C cs ds c g) (z51 _).symm
  ·exact⟨by omega,zS (zS rfl)⟩
 rintro α rfl
 change (acc++opt (decide (g-c<e)) (pB "least" c)).length<=_ at l3
 change Q (.own (acc++opt (decide (g-c<e)) (pB "least" c)++_))at q
 generalize acc++opt (decide (g-c<e)) (pB "least" c)=acc at *;refine vc (·=pV C cs ds c g (acc++opt (decide (im<g-c)) (pB "most" c))) ?_ ?_
 ·and_intros;refine⟨ds,_,_,rfl,a,by simp[words],⟨_,im,rfl,em,?_⟩⟩;generalize decide (im<g-c)=b;cases b<;>and_intros
  ·exact congrArg (pV C cs ds c g) (z51 _).symm
  ·exact⟨by omega,zS (zS rfl)⟩
 rintro α rfl;exact wH 4 rfl q
end
theorem ak {d:PyData}(h:sr d=true):∃many free:Nat,d=.tuple [.int many,.int free]/\0<free/\free<many/\many<64:=by
 unfold sr at h;split at h
 ·rename_i m r;rw[z21]at h;obtain⟨i,e,b,i1⟩:=zC h.1;obtain⟨j,a,c,f⟩:=zC h.2;subst a;injection e with e;subst e;refine⟨m.toNat,j.toNat,?_,by omega,by omega,by omega⟩;rw[show((m.toNat:Nat):Int)=m by omega,show((j.toNat:Nat):Int)=j by omega]
 ·cases h
theorem zF7 {ds:List PyData}(h:∀d∈ds,xM d=true)(day:Int):du (zi ds "deal" day):=by
 have:=yr h (x:="deal") (by simp[words]) day;rw[jt,yb4]at this;rcases this with z|z
 ·left;cases e:zi ds "deal" day with
  |none=>rfl
  |_=>rw[e]at z;cases z
 ·exact .inr (ak z)
theorem zv.all {ds:List PyData}(h:zv ds):∀d∈ds,xM d=true:=λd hd=>(h d hd).rule
def fh (ds:List PyData)(c g:Int):Prop:=∀z,c<=z->z<g->xE (zi ds "price" z)=false
def jM (ds:List PyData)(c:Int):Int:=intOf (zi ds "fee" c)
theorem sM {ds:List PyData}{c g z:Int}(h:zv ds)(s:fh ds c g)(h0:c<=z)(b:z<g):zi ds "price" z=.int (intOf (zi ds "price" z))/\0<=intOf (zi ds "price" z)/\intOf (zi ds "price" z)<=1000000000000:=by
 rcases zi0 h.all z with e|⟨i,e,a,i1⟩
 ·have:=s z h0 b;rw[e]at this;cases this
 ·rw[e];exact⟨rfl,a,i1⟩
theorem zp1 {ds:List PyData}(h:zv ds)(c:Int):zi ds "fee" c=.int (jM ds c)/\0<=jM ds c/\jM ds c<=1000000000000:=by
 obtain⟨i,e,a,i1⟩:=zT5 h.all c;unfold jM;rw[e];exact⟨rfl,a,i1⟩
def vO (c g:Int):Prop:=0<=c/\c<g/\g<=c+14/\g<=1000000
def rq (ds:List PyData)(c g:Int):Bool:=(vb ds c g).isEmpty
theorem xJ {α:Type}{a b:List α}:(a++b).isEmpty=(a.isEmpty&&b.isEmpty):=by cases a<;>rfl
theorem tW {b:Bool}{d:PyData}:(opt b d).isEmpty=!b:=by cases b<;>rfl
theorem pP {ds:List PyData}{c g:Int}:rq ds c g=true↔fh ds c g/\isF (zi ds "come" c)=false/\isF (zi ds "go" g)=false/\¬g-c<intOf (zi ds "least" c)/\¬intOf (zi ds "most" c)<g-c:=by
 unfold rq vb;rw[xJ,xJ,xJ,xJ,tW,tW,tW,tW];have:(xN ds c (g-c).toNat).isEmpty=true↔fh ds c g:=by
  unfold xN fh;rw[List.isEmpty_iff,List.map_eq_nil_iff,List.filter_eq_nil_iff];refine⟨λh z a b=>?_,λh z hz=>?_⟩
  ·have:=h z (yX.mpr ⟨a,by omega⟩);simpa using this
  ·have hz:=yX.mp hz;rw[h z hz.1 (by omega)];decide
 simp only[z21,this,z90,z43,and_assoc]
theorem aR {ds:List PyData}{c g:Int}(h:rq ds c g=true):fh ds c g:=(pP.mp h).1
theorem mL {ds:List PyData}{c g:Int}(cg:c<=g){d:PyData}(h:d∈vb ds c g):∃(x:Str) (z:Int),d=pB x z/\x∈words/\c<=z/\z<=g:=by
 unfold vb at h;simp only[z01]at h;have a:∀{b:Bool} {x:Str} {z:Int},d∈opt b (pB x z)->d=pB x z:=λ{b x z} h=>by
  cases b
  ·simp[opt]at h
  ·simpa[opt]using h
 rcases h with(((h|h)|h)|h)|h
 ·obtain⟨z,hz,rfl⟩:=z74.mp h;have hz:=yX.mp (z58.mp hz).1;exact⟨_,z,rfl,by simp[words],hz.1,by omega⟩
 ·exact⟨_,c,a h,by simp[words],by omega,by omega⟩
 ·exact⟨_,g,a h,by simp[words],by omega,by omega⟩
 ·exact⟨_,c,a h,by simp[words],by omega,by omega⟩
 ·exact⟨_,c,a h,by simp[words],by omega,by omega⟩
theorem jL {x:Str}{z:Int}(c:x∈words)(h0:-100<=z)(d:z<=2000000):zT 5000 (pB x z)/\(pB x z).depth<=1:=by
 have a:(2000001:Int)<big:=by decide
 have b:-big<(-100:Int):=by decide
 exact⟨zT.tuple (n:=2000) (zY.two (qA c) (zT.int (by omega) (by omega)) (zZ4 _) (zZ4 _)) (by show 2*(2000+2)+3<=5000;decide),by simp[pB,PyData.depth,PyData.depthAll]⟩
theorem zc6 {ds:List PyData}{c g:Int}:(vb ds c g).length<=(g-c).toNat+4:=by
 unfold vb;simp only[zZ9];have h0:=tw ds c (g-c).toNat;have d:=uD (isF (zi ds "come" c)) (pB "come" c);have b:=uD (isF (zi ds "go" g)) (pB "go" g);have e:=uD (decide (g-c<intOf (zi ds "least" c))) (pB "least" c);have a:=uD (decide (intOf (zi ds "most" c)<g-c)) (pB "most" c);omega
theorem qR {ds:List PyData}{c g:Int}(f:vO c g):zT sizeLine (.list (vb ds c g)):=by
 obtain⟨j,cg,g1,g2⟩:=f;refine zT.list (n:=5000) ⟨λd hd=>?_,λd hd=>?_⟩ ?_
 ·obtain⟨x,z,rfl,e,a,b⟩:=mL (by omega) hd;exact(jL e (by omega) (by omega)).1
 ·obtain⟨x,z,rfl,e,a,b⟩:=mL (by omega) hd;have:=(jL e (z:=z) (by omega) (by omega)).2;omega
 ·have h:(vb ds c g).length*(5000+2)<=18*(5000+2):=Nat.mul_le_mul_right _ (by have:=zc6 (ds:=ds) (c:=c) (g:=g);omega);have i:18*(5000+2)+2<=sizeLine:=by decide
  omega
theorem jI {ds:List PyData}:PyData.eqv (.list ds) (.list [])=ds.isEmpty:=by
 cases ds<;>rfl
def zz6 (C:Addr)(cs:Cs):Ph:=λas Q=>∃(ds:List PyData) (c g:Int),as=[.dat (yb C cs ds),.dat (.tuple [.int c,.int g])]/\zv ds/\vO c g/\Q (.dat (.bool (rq ds c g)))
section
variable {P:Program}{w:World}{K:PySem.W.Frag}{mg:Str->Option Value}{base:Heap}{cs:Cs}
theorem zk6 {C:Addr}(F:FnD K mg "can_be_had" zL9 ["book","stay"])(f:Cal P w K mg base "bars" 3 (ao C cs)):Cal P w K mg base "can_be_had" 4 (zz6 C cs):=by
 refine zZ ["book","stay"] F λ_ _ e _ _ _ _ _ Q nd hr h=>?_;obtain⟨ds,c,g,rfl,b,a,q⟩:=h;obtain⟨i,cg,g1,g2⟩:=id a;and_intros;refine⟨ds,c,g,rfl,b.rules,by omega,by omega,by omega,by omega,?_⟩;and_intros;exact eqk (qR a).shaped rfl (qR a).nod rfl (by rw[show PyData.eqv (A.own (vb ds c g)).d (.list [])=rq ds c g from jI];exact q)
abbrev sNP :Stmt:=top 50
abbrev zw6 :Stmt:=top 51
def zL4 (C:Addr)(cs:Cs):Ph:=λas Q=>∃(ds:List PyData) (ns:List Int) (pr:Int->Int),as=[.dat (yb C cs ds),.dat (.list (ns.map .int))]/\Rules ds/\ns.length<=900/\(∀z∈ns,zi ds "price" z=.int (pr z))/\Q (.own ((ns.map pr).map .int))
def zc7 (C:Addr)(cs:Cs):Ph:=λas Q=>∃(ds:List PyData) (c g:Int),as=[.dat (yb C cs ds),.dat (.tuple [.int c,.int g])]/\zv ds/\vO c g/\fh ds c g/\∀(x:Int) (r:List PyData),Q (.dat (.tuple (.int x::r)))
def zz5 (C:Addr)(cs:Cs):Ph:=λas Q=>∃(ds:List PyData) (c g:Int),as=[.dat (yb C cs ds),.dat (.tuple [.int c,.int g])]/\zv ds/\vO c g/\(rq ds c g=true->∀x:Int,Q (.dat (.int x)))/\(rq ds c g=false->Q (.dat .none))
theorem zE9 {C:Addr}(F:FnD K mg "night_prices" sNP ["book","nights"])(g:xC P w K mg base C "tells_of" 2 (vt C cs)):Cal P w K mg base "night_prices" 3 (zL4 C cs):=by
 refine zZ ["book","nights","prices","night","price"] F λ_ _ f _ _ _ _ _ Q nd hr h=>?_;obtain⟨ds,ns,pr,rfl,e,j,c,q⟩:=h;and_intros;refine zX (.one 3) (zQ (zj 1 rfl ⟨_,rfl,?_⟩));refine zK (λi α=>∃a b:Option A,α=[some (.dat (yb C cs ds)),some (.dat (.list (ns.map .int))),some (.own (((ns.take i).map pr).map .int)),a,b]) ⟨none,none,rfl⟩ ?_ ?_
 ·rintro i d α hd ⟨a,b,rfl⟩;rw[zZ1,zZ6]at hd;obtain⟨z,hz,rfl⟩:=hd;have hi:=(zX9.mp hz).1;refine⟨_,rfl,yj 4 nd ?_⟩;and_intros;refine⟨ds,_,_,rfl,e,by simp[words],?_⟩;show SvS _ (List.set _ _ (some (.dat (zi ds "price" z)))) _ _;rw[c z (z23 hz)];and_intros;refine⟨by rw[zX7,zX7,z46];omega,?_⟩;and_intros;exact⟨_,_,by rw[z45,hz,z39,z39]<;>rfl⟩
 ·rintro α ⟨a,b,rfl⟩;rw[zX7,z40];and_intros;exact q
theorem bL {C:Addr}(F:FnD K mg "bill" zw6 ["book","stay"])(nb:NbT mg)(p:xC P w K mg base C "tells_of" 2 (vt C cs))(r:Cal P w K mg base "nights_of" 1 vn)(u:Cal P w K mg base "night_prices" 3 (zL4 C cs))(v:Cal P w K mg base "marked" 4 rM):Cal P w K mg base "bill" 5 (zc7 C cs):=by
 refine zZ ["book","stay","nights","prices","marks","fee","rows","paid"] F λ_ _ _ _ _ _ _ _ Q nd hr h=>?_;obtain⟨ds,c,g,rfl,a,⟨s,cg,g1,g2⟩,i,q⟩:=h;have e:=a.rules;and_intros;refine⟨c,g,rfl,by omega,cg,by omega,by omega,?_⟩;generalize hn:(g-c).toNat=n;have ln:(zx c n).length=n:=zk ..;and_intros;refine⟨ds,zx c n,λz=>intOf (zi ds "price" z),rfl,e,by omega,λz hz=>(sM a i (yX.mp hz).1 (by have:=(yX.mp hz).2;omega)).1,?_⟩;have pm:∀z∈(zx c n).map (λz=>intOf (zi ds "price" z)),0<=z/\z<=1000000000000:=λz hz=>by
  obtain⟨y,hy,rfl⟩:=z74.mp hz;have hy:=yX.mp hy;exact(sM a i hy.1 (by omega)).2
 have l:=zX7 (as:=zx c n) λz=>intOf (zi ds "price" z);generalize (zx c n).map (λz=>intOf (zi ds "price" z))=zs at pm l;and_intros;refine⟨ds,_,_,rfl,e,by simp[words],?_⟩;and_intros;refine⟨zs,_,rfl,by omega,zF7 a.all c,λbs o=>?_⟩;refine yj 5 nd ?_;and_intros;refine⟨ds,_,_,rfl,e,by simp[words],?_⟩;show SvS _ (List.set _ _ (some (.dat (zi ds "fee" c)))) _ _;rw[(zp1 a c).1];refine yj 6 nd (EvL.d (lJ rfl (by rfl) nb.list (by rfl) nb.zip ?_));and_intros;have l1:(zs.map PyData.int).length=((zx c n).map PyData.int).length:=by simp;omega
 have l2:(bs.map PyData.bool).length=((zx c n).map PyData.int).length:=by simp;omega
 refine⟨_,_,_,rfl,l1,l2,by simp;omega,by simp;omega,?_⟩;refine yj 7 nd (zh7 rfl (by rfl) nb.sum (EvL.d (yN ["row"] [none] (.one 0) (zQ (zj 6 rfl ⟨_,rfl,by rw[uR l1 l2];simp;omega,?_⟩)))));refine sL (λd=>!tR d) (zG4 1) (λd hd=>?_) ?_
 ·obtain⟨j,m⟩:=List.mem_iff_getElem?.mp hd;obtain⟨x,y,z,e1,t,f,rfl⟩:=uK m;rw[zZ1,zZ6]at f;obtain⟨b,_,rfl⟩:=f;refine⟨_,rfl,λ_ _ _ _ _ k=>xW ?_,λ_ _ _ _ _ _ k=>?_⟩<;>and_intros
  ·exact k
  ·exact k
 rw[z37,rS (by rw[zX7]at l1;exact l1) (by rw[zX7]at l2;exact l2)];refine⟨_,rfl,λz hz=>by have:=pm z (vE hz);omega,jo (λz hz=>pm z (vE hz)) (zY8 (qu _ _) (by omega)),?_⟩;and_intros;exact q _ _
theorem zm9 {C:Addr}(F:FnD K mg "cost_or_none" zK4 ["book","stay"])(j:Cal P w K mg base "can_be_had" 4 (zz6 C cs))(i:Cal P w K mg base "bill" 5 (zc7 C cs)):Cal P w K mg base "cost_or_none" 6 (zz5 C cs):=by
 refine zZ ["book","stay"] F λ_ _ _ _ _ _ _ _ Q nd hr h=>?_;obtain⟨ds,c,g,rfl,b,a,f,d⟩:=h;and_intros;refine⟨ds,c,g,rfl,b,a,?_⟩;and_intros;refine tu (λe=>?_) (λe=>?_)<;>and_intros
 ·refine⟨ds,c,g,rfl,b,a,aR e,λx r=>?_⟩;and_intros;exact f e x
 ·exact d e
end
theorem take_snoc {β:Type}{l:List β}{i:Nat}{d:β}(h:l[i]?=some d):l.take (i+1)=l.take i++[d]:=by rw[z45,h];rfl
abbrev zK5 :Stmt:=top 17
abbrev zv2 :Stmt:=top 18
def hT (n:Int)(x:Str)(z:Int):PyData:=.tuple [.int n,.str x,.int z]
def pPr (ds:List PyData)(z:Int):Bool:=xE (zi ds "price" z)
def pF (ds:List PyData)(x:Str)(z:Int):Bool:=isF (zi ds x z)
def pLe (ds:List PyData)(z:Int):Bool:=decide (1<intOf (zi ds "least" z))
def pMo (ds:List PyData)(g z:Int):Bool:=decide (intOf (zi ds "most" z)<g-z)
def sel (p:Int->Bool)(lo hi:Int):List Int:=(zx lo (hi-lo).toNat).filter p
def vI (h:Str->Int->PyData)(ds:List PyData)(c g:Int):List PyData:=
 (sel (pPr ds) c g).map (h "price")++(sel (pF ds "come") c g).map (h "come")++(sel (pF ds "go") (c+1) (g+1)).map (h "go")++(sel (pLe ds) c g).map (h "least")++(sel (pMo ds g) c g).map (h "most")
def wN (n:Nat):List (List PyData)->Int->Int->List PyData
 |[],_,_=>[]
 |ds::r,c,g=>vI (hT n) ds c g++wN (n+1) r c g
theorem xq (p:Int->Bool)(lo hi:Int):(sel p lo hi).length<=(hi-lo).toNat:=by
 unfold sel;have:=z57 p (zx lo (hi-lo).toNat);rw[zk]at this;exact this
theorem vj (h:Str->Int->PyData)(ds:List PyData)(c g:Int):(vI h ds c g).length<=5*(g-c).toNat:=by
 unfold vI;simp only[zZ9,zX7];have d:=xq (pPr ds) c g;have a:=xq (pF ds "come") c g;have f:=xq (pF ds "go") (c+1) (g+1);have e:=xq (pLe ds) c g;have b:=xq (pMo ds g) c g;omega
theorem xt (c g:Int):∀(told:List (List PyData)) (n:Nat),(wN n told c g).length<=told.length*(5*(g-c).toNat)
 |[],n=>by simp[wN]
 |ds::r,n=>by
  have:=xt c g r (n+1);have a:=vj (hT n) ds c g;simp only[wN,zZ9,z00];rw[Nat.add_mul];omega
theorem rA (c g:Int)(ds:List PyData):∀(told:List (List PyData)) (n:Nat),wN n (told++[ds]) c g=wN n told c g++vI (hT ((n+told.length:Nat):Int)) ds c g
 |[],n=>by simp[wN]
 |e::r,n=>by
  simp only[yc9,wN];rw[rA c g ds r (n+1),List.append_assoc,z00,show n+1+r.length=n+(r.length+1) by omega]
def zw4 (C:Addr)(cs:Cs):Ph:=λas Q=>∃(n:Int) (ds:List PyData) (c g:Int),as=[.dat (.int n),.dat (yb C cs ds),.dat (.tuple [.int c,.int g])]/\Rules ds/\0<=c/\c<g/\g<=c+14/\g<=1000000/\Q (.own (vI (hT n) ds c g))
def tZ (C:Addr)(cs:Cs):Ph:=λas Q=>∃(told:List (List PyData)) (c g:Int),as=[.dat (.list (told.map (yb C cs))),.dat (.tuple [.int c,.int g])]/\(∀ds∈told,Rules ds)/\told.length<=4/\0<=c/\c<g/\g<=c+14/\g<=1000000/\Q (.own (wN 0 told c g))
def re3 (n:Int):PyData->PyData
 |.tuple [.str x,.int z]=>hT n x z
 |d=>d
theorem dN (n:Int)(ds:List PyData)(c g:Int):(vI pB ds c g).map (re3 n)=vI (hT n) ds c g:=by
 unfold vI;simp only[z39,z55];rfl
theorem zp4 {p:Int->Bool}{lo hi z:Int}(h:z∈sel p lo hi):lo<=z/\z<hi:=by
 obtain⟨i,a,rfl⟩:=z74.mp (z58.mp h).1;have:=List.mem_range.mp a;omega
theorem cc {h:Str->Int->PyData}{ds:List PyData}{c g:Int}{d:PyData}(m:d∈vI h ds c g):∃x z,d=h x z/\x∈words/\c<=z/\z<=g:=by
 unfold vI at m;simp only[z01]at m;rcases m with(((m|m)|m)|m)|m<;>
 ·obtain⟨z,hz,rfl⟩:=z74.mp m;have:=zp4 hz;exact⟨_,z,rfl,by simp[words],by omega,by omega⟩
section
variable {P:Program}{w:World}{K:PySem.W.Frag}{mg:Str->Option Value}{base:Heap}{cs:Cs}
abbrev nHB :List Str:=["number","book","stay","come","go","nights","found"]
theorem zL6 {ds:List PyData}{x:Str}{z:Int}{T:Bool->Prop}(h:∃b,zi ds x z=.bool b)(k:T (pF ds x z)):∃k,zP1 (zi ds x z)=some k/\T (!k):=by
 obtain⟨b,e⟩:=h;unfold pF at k;rw[e]at k ⊢;exact⟨b,rfl,k⟩
theorem zr6 {C:Addr}(F:FnD K mg "hindrances_by" zK5 ["number","book","stay"])(nb:NbT mg)(m:Cal P w K mg base "nights_of" 1 vn)(l:xC P w K mg base C "tells_of" 2 (vt C cs)):Cal P w K mg base "hindrances_by" 3 (zw4 C cs):=by
 refine zZ nHB F λ_ _ _ _ _ _ _ _ Q nd hr h=>?_;obtain⟨n,ds,c,g,rfl,i,o,cg,g1,g2,q⟩:=h;have j:∀d∈ds,xM d=true:=λd hd=>(i d hd).1;have L:∀{a b:Int},b<=a+14->((zx a (b-a).toNat).map PyData.int).length<=1000:=λ{a b} h=>by rw[zX7,zk];omega
 have s1:=xq (pPr ds) c g;have s2:=xq (pF ds "come") c g;have s3:=xq (pF ds "go") (c+1) (g+1);have s4:=xq (pLe ds) c g;refine yj 3 nd ?_;and_intros;refine⟨c,g,rfl,by omega,by omega,by omega,by omega,?_⟩;and_intros;refine ji 6 ["day","book"] [none,some 1] (.one 0) (zQ (zj 5 rfl ⟨_,rfl,L (by omega),yE (pPr ds) (pB "price") (λz _=>⟨_,rfl,λC s2 f fp Q k=>xW ?_,λ_ C s2 f fp Q k=>?_⟩) ?_⟩))
 ·and_intros;exact⟨ds,_,_,rfl,i,by simp[words],k⟩
 ·and_intros;exact k
 refine we 6 rfl (EvL.d (yN ["day","book"] [none,some 1] (.one 0) (zQ (zj 5 rfl ⟨_,rfl,L (by omega),yE (pF ds "come") (pB "come") (λz _=>⟨_,rfl,λC s2 f fp Q k=>xW ?_,λ_ C s2 f fp Q k=>?_⟩) ⟨_,rfl,by simp only[z37,zX7];unfold sel at s1 s2;omega,?_⟩⟩))))
 ·and_intros;exact⟨ds,_,_,rfl,i,by simp[words],zL6 (zf8 j z) k⟩
 ·and_intros;exact k
 refine we 6 rfl (EvL.d (yN ["day","book"] [none,some 1] (.one 0) (vA (by rfl) nb.range ?_)));and_intros;refine⟨⟨by omega,by omega,by omega,by omega⟩,L (by omega),yE (pF ds "go") (pB "go") (λz _=>⟨_,rfl,λC s2 f fp Q k=>xW ?_,λ_ C s2 f fp Q k=>?_⟩) ⟨_,rfl,by simp only[z37,zZ9,zX7];unfold sel at s1 s2 s3;omega,?_⟩⟩
 ·and_intros;exact⟨ds,_,_,rfl,i,by simp[words],zL6 (zP6 j z) k⟩
 ·and_intros;exact k
 refine we 6 rfl (EvL.d (yN ["day","book"] [none,some 1] (.one 0) (zQ (zj 5 rfl ⟨_,rfl,L (by omega),yE (pLe ds) (pB "least") (λz _=>⟨_,rfl,λC s2 f fp Q k=>xW ?_,λ_ C s2 f fp Q k=>?_⟩) ⟨_,rfl,by simp only[z37,zZ9,zX7];unfold sel at s1 s2 s3 s4;omega,?_⟩⟩))))
 ·and_intros;obtain⟨b,e,_,_⟩:=oy j z;unfold pLe at k;rw[e]at k;refine⟨ds,_,_,rfl,i,by simp[words],?_⟩;and_intros;exact⟨b,_,e,rfl,k⟩
 ·and_intros;exact k
 refine we 6 rfl (EvL.d (yN ["day","book","go"] [none,some 1,some 4] (.one 0) (zQ (zj 5 rfl ⟨_,rfl,L (by omega),yE (pMo ds g) (pB "most") (λz _=>⟨_,rfl,λC s2 f fp Q k=>xW ?_,λ_ C s2 f fp Q k=>?_⟩) ⟨_,rfl,by have:=vj pB ds c g;simp only[vI,zZ9]at this;simp only[z37,zZ9];unfold sel at this;omega,?_⟩⟩))))
 ·and_intros;obtain⟨b,e,_,_⟩:=kM j z;unfold pMo at k;rw[e]at k;refine⟨ds,_,_,rfl,i,by simp[words],?_⟩;and_intros;exact⟨b,_,e,rfl,k⟩
 ·and_intros;exact k
 refine pJ 6 rfl (vB (yN ["word","day","number"] [none,none,some 0] (.many [0,1]) (zQ (zj 6 rfl ⟨vI pB ds c g,rfl,?_,?_⟩))))
 ·have:=vj pB ds c g;omega
 rw[<-List.map_id (vI pB ds c g)];refine yu (g:=id) (re3 n) (λd hd=>?_) ?_
 ·obtain⟨x,z,rfl,_⟩:=cc hd;refine⟨_,rfl,λC s2 f fp Q k=>?_⟩;and_intros;exact k
 ·rw[z37,dN];exact q
abbrev nHi :List Str:=["books","stay","found","number","book"]
theorem dq {C:Addr}(F:FnD K mg "hindrances" zv2 ["books","stay"])(nb:NbT mg)(k:Cal P w K mg base "hindrances_by" 3 (zw4 C cs)):Cal P w K mg base "hindrances" 4 (tZ C cs):=by
 refine zZ (nHi) F λ_ _ _ _ _ _ _ _ Q nd hr h=>?_;obtain⟨told,c,g,rfl,m,lt,l,cg,g1,g2,q⟩:=h;refine xO 2 nd (rQ (zH (⟨_,rfl,z56 rfl,?_⟩)));refine ze7 (pat:=.many [3,4]) yh8 rfl (ve (n:=2) (K:=K) rfl rfl (wu (yc (i:=3) nd rfl (by first|exact Or.inl rfl|exact Or.inr rfl)) (wu (yc (i:=4) nd rfl (by first|exact Or.inl rfl|exact Or.inr rfl)) (uy)))) (uj (by rfl) nb.enumerate (zj 0 rfl (⟨_,rfl,?_⟩)));refine zK (λi α=>∃b v4,α=[some (.dat (.list (told.map (yb C cs)))),some (.dat (.tuple [.int c,.int g])),some (.own (wN 0 (told.take i) c g)),b,v4]) ⟨none,none,rfl⟩ ?_ ?_
 ·rintro i d α hd ⟨b,v4,rfl⟩;obtain⟨e,he,rfl⟩:=xv hd;rw[zZ1,zZ6]at he;obtain⟨ds,a,rfl⟩:=he;have hi:=(zX9.mp a).1;have f:=rA c g ds (told.take i) 0;rw[<-take_snoc a,z46,Nat.min_eq_left (by omega)]at f;have o:=xt c g (told.take i) 0;have j:(told.take i).length*(5*(g-c).toNat)<=4*70:=yf1 (by rw[z46];omega) (by omega);have l1:=vj (hT ((0+i:Nat):Int)) ds c g;rw[f];refine⟨_,rfl,?_⟩;refine we 2 rfl (EvL.d (vW k (hr.mono (by decide)) (by rfl) (zq (zj 3 rfl (zq (zj 4 rfl (zq (zj 1 rfl (zH ⟨_,ds,c,g,rfl,m ds (z23 a),l,cg,g1,g2,⟨_,rfl,⟨_,rfl,by omega,?_⟩⟩⟩)))))))));exact zS ⟨_,_,rfl⟩
 ·rintro α ⟨b,v4,rfl⟩;rw[xX,zX7,z40];exact wH 2 rfl q
end
abbrev H3 :=Int×Str×Int
def hD (h:H3):PyData:=hT h.1 h.2.1 h.2.2
def hK (h:H3):List Key:=[.inl h.1,.inr h.2.1,.inl h.2.2]
theorem zA5 {a b:H3}(e:hK a=hK b):a=b:=by
 obtain⟨a1,a2,i⟩:=a;obtain⟨f,g,h⟩:=b;simp only[hK,List.cons.injEq,Sum.inl.injEq,Sum.inr.injEq,and_true]at e;obtain⟨e1,d,c⟩:=e;subst e1 d c;rfl
def xg (a:List H3)(n:Int)(x:Str)(z:Int):Bool:=a.any λh=>decide (h=(n,x,z))
theorem wx {a:List H3}{n:Int}{x:Str}{z:Int}:xg a n x z=true↔(n,x,z)∈a:=by
 unfold xg;rw[yb1]
 constructor
 ·rintro⟨h,hm,e⟩;rw[<-z68 e];exact hm
 ·intro hm;exact⟨_,hm,z28 rfl⟩
abbrev Fo :=Int->Str->Int->Bool
theorem zi6 {a:List H3}{ds:List (PyData×PyData)}(h:∀k,inT ds k=qf (a.map λh=>(hK h,PyData.bool true)) k)(n:Int)(x:Str)(z:Int):inT ds [.inl n,.inr x,.inl z]=xg a n x z:=by
 rw[h];unfold qf xg;rw[List.any_map]
 congr 1
 funext q
 show decide (hK q=hK (n,x,z))=decide (q=(n,x,z));by_cases e:q=(n,x,z)
 ·subst e;simp
 ·rw[z06 e,z06 λw=>e (zA5 w)]
def leD (ds:List PyData)(b:Int):Int:=intOf (zi ds "least" b)
def moD (ds:List PyData)(b:Int):Int:=intOf (zi ds "most" b)
def vH (fo:Fo)(n:Int)(ds:List PyData)(b e:Int):Bool:=
 !(fo n "come" b||fo n "go" e)&&(!(fo n "least" b&&decide (e-b<leD ds b))&&(!(fo n "most" b&&decide (moD ds b<e-b))&&!((zx b (e-b).toNat).any λz=>fo n "price" z)))
def edB (fo:Fo)(told:List (List PyData))(b e:Int):Prop:=∃(n:Nat) (ds:List PyData),told[n]?=some ds/\vH fo (n:Int) ds b e=true
inductive Way (E:Int->Int->Prop)(a:Int):Int->Prop
 |nil:Way E a a
 |snoc {x y:Int}:Way E a x->E x y->Way E a y
theorem Way.last {E:Int->Int->Prop}{x z:Int}(h:Way E x z):x=z\/∃y,Way E x y/\E y z:=by
 cases h with
 |nil=>exact .inl rfl
 |snoc h e=>exact .inr ⟨_,h,e⟩
def upE (fo:Fo)(told:List (List PyData))(x y:Int):Prop:=x<y/\edB fo told x y
abbrev wR (fo:Fo)(told:List (List PyData))(c g:Int):Prop:=Way (upE fo told) c g
theorem Way.le {fo:Fo}{told:List (List PyData)}{c g:Int}(h:wR fo told c g):c<=g:=by
 induction h with
 |nil=>exact ya6 _
 |snoc _ e a=>have:=e.1;omega
noncomputable def tr (p:Prop):Bool:=@decide p (Classical.propDecidable p)
theorem rB {p:Prop}:tr p=true↔p:=@decide_eq_true_iff p (Classical.propDecidable p)
theorem fJ {p:Prop}(h:p):tr p=true:=rB.mpr h
theorem zg3 {p:Prop}(h:¬p):tr p=false:=by
 cases e:tr p with
 |false=>rfl
 |true=>exact absurd (rB.mp e) h
def th (n:Int)(x:Str)(z:Int):H3:=(n,x,z)
def yM (n:Int)(ds:List PyData)(c g:Int):List H3:=
 (sel (pPr ds) c g).map (th n "price")++(sel (pF ds "come") c g).map (th n "come")++(sel (pF ds "go") (c+1) (g+1)).map (th n "go")++(sel (pLe ds) c g).map (th n "least")++(sel (pMo ds g) c g).map (th n "most")
def zl (n:Nat):List (List PyData)->Int->Int->List H3
 |[],_,_=>[]
 |ds::r,c,g=>yM n ds c g++zl (n+1) r c g
theorem pD (n:Int)(ds:List PyData)(c g:Int):(yM n ds c g).map hD=vI (hT n) ds c g:=by
 unfold vI yM;simp only[z39,z55];rfl
theorem yd (c g:Int):∀(told:List (List PyData)) (n:Nat),(zl n told c g).map hD=wN n told c g
 |[],n=>rfl
 |ds::r,n=>by
  show(yM n ds c g++zl (n+1) r c g).map hD=vI (hT n) ds c g++wN (n+1) r c g;rw[z39,pD,yd c g r (n+1)]
def Wd (a:List H3):Prop:=∀h∈a,h.2.1∈words
theorem nF (n:Int)(ds:List PyData)(c g:Int):∀h∈yM n ds c g,h.2.1∈words/\h.1=n:=by
 intro h hm;unfold yM at hm;simp only[z01]at hm;rcases hm with(((m|m)|m)|m)|m<;>
 ·obtain⟨z,hz,rfl⟩:=z74.mp m;exact⟨by simp[words,th],rfl⟩
theorem wb (c g:Int):∀(told:List (List PyData)) (n:Nat),Wd (zl n told c g)
 |[],n=>λh hm=>by simp[zl]at hm
 |ds::r,n=>λh hm=>by
  rcases z01.mp hm with hm|hm
  ·exact(nF _ _ _ _ h hm).1
  ·exact wb c g r (n+1) h hm
theorem kG {x:Str}(h:x∈words):PySem.PyData.strOk x=true:=by
 simp only[words,zY4,zZ8,z32]at h;rcases h with rfl|rfl|rfl|rfl|rfl|rfl|rfl<;>decide +kernel
theorem oF {h:H3}(w:h.2.1∈words):(hD h).canLay0=true:=by
 show(true&&(PySem.PyData.strOk h.2.1&&(true&&true)))=true;rw[kG w];rfl
theorem rZ (h:H3):(hD h).depth<=60:=by
 show PyData.depth (.tuple [.int h.1,.str h.2.1,.int h.2.2])<=60;simp[PyData.depth,PyData.depthAll]
theorem rX (h:H3):(hD h).hasDict=false:=rfl
theorem pW :∀{a:List H3},Wd a->PyData.canLayAll0 (a.map hD)=true
 |[],_=>rfl
 |h::r,w=>by
  show((hD h).canLay0&&PyData.canLayAll0 (r.map hD))=true;rw[oF (w h zY9),pW λq hq=>w q (zY6 _ hq)];rfl
theorem nh :∀(a:List H3),PyData.hasDictAll (a.map hD)=false
 |[]=>rfl
 |h::r=>by
  show((hD h).hasDict||PyData.hasDictAll (r.map hD))=false;rw[rX,nh r];rfl
theorem bS (a b:H3):PyData.eqv (hD a) (hD b)=decide (a=b):=by
 obtain⟨a1,a2,g⟩:=a;obtain⟨d,e,f⟩:=b;show PyData.eqv (.tuple [.int a1,.str a2,.int g]) (.tuple [.int d,.str e,.int f])=_;by_cases e1:a1=d
 ·by_cases c:a2=e
  ·by_cases h:g=f
   ·subst e1 c h;simp[PyData.eqv,PyData.eqvAll]
   ·simp[PyData.eqv,PyData.eqvAll,e1,c,h]
  ·simp[PyData.eqv,PyData.eqvAll,e1,c]
 ·simp[PyData.eqv,PyData.eqvAll,e1]
def inH (a:List H3)(h:H3):Bool:=a.any λy=>decide (y=h)
theorem cX (a:List H3)(h:H3):((a.map hD).any λy=>PyData.eqv y (hD h))=inH a h:=by
 unfold inH;rw[List.any_map]
 congr 1
 funext q
 exact bS q h
theorem pE {a:List H3}{h:H3}:inH a h=true↔h∈a:=by
 unfold inH;rw[yb1]
 constructor
 ·rintro⟨y,hm,e⟩;rw[<-z68 e];exact hm
 ·intro hm;exact⟨h,hm,z28 rfl⟩
def vU (told:List (List PyData))(c g:Int)(ss:List H3):List H3:=(zl 0 told c g).filter λh=>inH ss h
abbrev zM2 :Stmt:=top 19
abbrev lq :Stmt:=top 20
abbrev mS :Stmt:=top 21
abbrev pw :Stmt:=top 22
structure SB (b e:Int):Prop where
 b0:0<=b
 lt:b<e
 e14:e<=b+14
 e1:e<=1000000
noncomputable def foT (D:List (PyData×PyData)):Fo:=λn x z=>inT D [.inl n,.inr x,.inl z]
def xF (C:Addr)(cs:Cs)(told:List (List PyData)):PyData:=.list (told.map (yb C cs))
def zx7 (C:Addr)(cs:Cs):Ph:=λas Q=>∃(n:Int) (ds:List PyData) (b e:Int) (D:List (PyData×PyData)),as=[.dat (.int n),.dat (yb C cs ds),.dat (.tuple [.int b,.int e]),.dat (tL D)]/\Rules ds/\SB b e/\Q (.dat (.bool (vH (foT D) n ds b e)))
def pA (C:Addr)(cs:Cs):Ph:=λas Q=>∃(told:List (List PyData)) (bs:List Int) (y:Int) (D:List (PyData×PyData)),as=[.dat (xF C cs told),.dat (.list (bs.map .int)),.dat (.int y),.dat (tL D)]/\(∀ds∈told,Rules ds)/\told.length<=4/\(∀b∈bs,SB b y)/\Q (.dat (.bool (tr (∃b∈bs,edB (foT D) told b y))))
def vG (C:Addr)(cs:Cs):Ph:=λas Q=>∃(told:List (List PyData)) (c g:Int) (a:List H3),as=[.dat (xF C cs told),.dat (.tuple [.int c,.int g]),.dat (.list (a.map hD))]/\(∀ds∈told,Rules ds)/\told.length<=4/\SB c g/\a.length<=300/\Q (.dat (.bool (!tr (wR (xg a) told c g))))
def sg (C:Addr)(cs:Cs):Ph:=λas Q=>∃(told:List (List PyData)) (c g:Int) (ss:List H3),as=[.dat (xF C cs told),.dat (.tuple [.int c,.int g]),.dat (.list (ss.map hD))]/\(∀ds∈told,Rules ds)/\told.length<=4/\SB c g/\Wd ss/\Q (.dat (.bool (!tr (wR (xg (vU told c g ss)) told c g))))
theorem pC {a:Type}(g:a->PyData):∀(l:List a) (n:Nat),vM n (l.map g)=(l.zipIdx n).map λp=>.tuple [.int (p.2:Nat),g p.1]
 |[],n=>rfl
 |x::l,n=>by
  rw[z03,List.zipIdx_cons,z03];show _::vM (n+1) (l.map g)=_;rw[pC g l (n+1)]
theorem aH {fo:Fo}{told:List (List PyData)}{b e:Int}:(told.zipIdx.any λp=>vH fo (p.2:Nat) p.1 b e)=true↔edB fo told b e:=by
 rw[yb1]
 constructor
 ·rintro⟨⟨ds,n⟩,hm,h⟩;exact⟨n,ds,(List.mk_mem_zipIdx_iff_getElem?).mp hm,h⟩
 ·rintro⟨n,ds,c,a⟩;exact⟨(ds,n),(List.mk_mem_zipIdx_iff_getElem?).mpr c,a⟩
section
variable {P:Program}{w:World}{K:PySem.W.Frag}{mg:Str->Option Value}{base:Heap}{cs:Cs}
theorem zk7 {C:Addr}(F:FnD K mg "lets" zM2 ["number","book","stay","force"])(nb:NbT mg)(t:Cal P w K mg base "nights_of" 1 vn)(s:xC P w K mg base C "tells_of" 2 (vt C cs)):Cal P w K mg base "lets" 3 (zx7 C cs):=by
 refine zZ ["number","book","stay","force","come","many"] F λ_ _ _ _ _ _ _ _ Q nd hr h=>?_;obtain⟨n,ds,b,e,D,rfl,l,r,q⟩:=h;obtain⟨b0,bl,e14,e1⟩:=id r;obtain⟨le,hle,_,_⟩:=oy (λd hd=>(l d hd).1) b;obtain⟨mo,i,_,_⟩:=kM (λd hd=>(l d hd).1) b;have o:leD ds b=le:=by unfold leD;rw[hle];rfl
 have p:moD ds b=mo:=by unfold moD;rw[i];rfl
 unfold vH at q;rw[o,p]at q;and_intros;have j:∀{x y:Bool},x=y->Q (.dat (.bool x))->Q (.dat (.bool y)):=λe z=>e▸z;refine tu (λf=>?_) (λf=>?_)
 ·have f:foT D n "come" b=true:=f;and_intros;exact j (by rw[f];rfl) q
 have f:foT D n "come" b=false:=f;and_intros;refine xm (λg=>?_) (λg=>?_)
 ·have g:foT D n "go" e=true:=g;and_intros;exact j (by rw[f,g];rfl) q
 have g:foT D n "go" e=false:=g;rw[f,g]at q;refine zS ?_;refine vc (λα=>α=[some (.dat (.int n)),some (.dat (yb C cs ds)),some (.dat (.tuple [.int b,.int e])),some (.dat (tL D)),some (.dat (.int b)),some (.dat (.int (e-b)))]/\(foT D n "least" b&&decide (e-b<le))=false) ?_ ?_
 ·and_intros;refine tu (λc=>?_) (λc=>?_)
  ·have c:foT D n "least" b=true:=c;and_intros;refine⟨ds,"least",b,rfl,l,by simp[words],?_⟩;rw[hle];and_intros;refine xm (λa=>?_) (λa=>?_)
   ·and_intros;exact j (by rw[c,a];rfl) q
   ·and_intros;exact⟨rfl,by rw[c,a];rfl⟩
  ·have c:foT D n "least" b=false:=c;and_intros;exact⟨rfl,by rw[c];rfl⟩
 rintro α ⟨rfl,c⟩;rw[c]at q;refine vc (λα=>α=[some (.dat (.int n)),some (.dat (yb C cs ds)),some (.dat (.tuple [.int b,.int e])),some (.dat (tL D)),some (.dat (.int b)),some (.dat (.int (e-b)))]/\(foT D n "most" b&&decide (mo<e-b))=false) ?_ ?_
 ·and_intros;refine tu (λa=>?_) (λa=>?_)
  ·have a:foT D n "most" b=true:=a;and_intros;refine⟨ds,"most",b,rfl,l,by simp[words],?_⟩;rw[i];and_intros;refine xm (λm=>?_) (λm=>?_)
   ·and_intros;exact j (by rw[a,m];rfl) q
   ·and_intros;exact⟨rfl,by rw[a,m];rfl⟩
  ·have a:foT D n "most" b=false:=a;and_intros;exact⟨rfl,by rw[a];rfl⟩
 rintro α ⟨rfl,a⟩;rw[a]at q;refine xR (zf6 (dg rfl (by rfl) nb.any (EvL.d (yN ["night","number","force"] [none,some 0,some 3] (.one 0) (zQ (EvL.d ?_))))));and_intros;refine⟨b,e,rfl,by omega,bl,by omega,by omega,?_⟩;and_intros;refine⟨by rw[zX7,zk];omega,?_⟩;refine yu (λz=>.bool (foT D n "price" z)) (λz hz=>⟨_,rfl,λ_ _ _ _ _ k=>?_⟩) ?_
 ·and_intros;exact k
 rw[z37,show(zx b (e-b).toNat).map (λz=>PyData.bool (foT D n "price" z))=((zx b (e-b).toNat).map λz=>foT D n "price" z).map .bool by rw[z55]<;>rfl];and_intros;rw[List.any_map];exact q
theorem mC {C:Addr}(F:FnD K mg "leads_to" lq ["books","begins","day","force"])(nb:NbT mg)(r:Cal P w K mg base "lets" 3 (zx7 C cs)):Cal P w K mg base "leads_to" 4 (pA C cs):=by
 refine zZ ["books","begins","day","force","begin"] F λ_ _ t _ _ _ _ _ Q nd hr h=>?_;obtain⟨told,bs,y,D,rfl,m,s,l,q⟩:=h;refine zX (.one 4) (zQ (zj 1 rfl ⟨_,rfl,?_⟩));refine zK (λi α=>∃f:Option A,α=[some (.dat (xF C cs told)),some (.dat (.list (bs.map .int))),some (.dat (.int y)),some (.dat (tL D)),f]/\∀b∈bs.take i,¬edB (foT D) told b y) ⟨none,rfl,λb hb=>by simp at hb⟩ ?_ ?_
 ·rintro i x α j ⟨f,rfl,c⟩;rw[zZ1,zZ6]at j;obtain⟨b,g,rfl⟩:=j;have bm:=z23 g;refine⟨_,rfl,?_⟩;refine uq (mw (dg rfl (by rfl) nb.any (EvL.d (yN ["number","book","begin","day","force"] [none,none,some 4,some 2,some 3] (.many [0,1]) (uj (by rfl) nb.enumerate (zj 0 rfl ⟨_,rfl,?_⟩))))));rw[pC];refine⟨by rw[zX7,List.length_zipIdx];omega,?_⟩;refine yu (λp=>.bool (vH (foT D) (p.2:Nat) p.1 b y)) (λp o=>⟨_,rfl,λ_ _ _ _ _ k=>?_⟩) ?_
  ·and_intros;exact⟨_,p.1,b,y,D,rfl,m p.1 (List.fst_mem_of_mem_zipIdx o),l b bm,k⟩
  rw[z37,show told.zipIdx.map (λp=>PyData.bool (vH (foT D) (p.2:Nat) p.1 b y))=(told.zipIdx.map λp=>vH (foT D) (p.2:Nat) p.1 b y).map .bool by rw[z55]<;>rfl];and_intros;rw[List.any_map];refine xm (λe=>?_) (λe=>?_)
  ·have e:=aH.mp (show(told.zipIdx.any λp=>vH (foT D) (p.2:Nat) p.1 b y)=true from e);rw[fJ (p:=∃b∈bs,edB (foT D) told b y) ⟨b,bm,e⟩]at q;and_intros;exact q
  ·and_intros;intro n a;rw[take_snoc g]at a;rcases z01.mp a with a|a
   ·exact c n a
   ·rw[zY2.mp a];intro z;have:=aH.mpr z;rw[show(told.zipIdx.any λp=>vH (foT D) (p.2:Nat) p.1 b y)=false from e]at this;cases this
 ·rintro α ⟨f,rfl,c⟩;rw[zX7,z40]at c;rw[zg3 (p:=∃b∈bs,edB (foT D) told b y) λ⟨b,hb,z⟩=>c b hb z]at q;and_intros;exact q
theorem inI (ns:List Int)(z:Int):inD (.int z) (ns.map .int)=decide (z∈ns):=by
 induction ns with
 |nil=>rfl
 |cons d ds a=>
  rw[z03];unfold inD at a ⊢;rw[z83,a];by_cases h:z=d
  ·subst h;simp[scV,eqV]
  ·simp[scV,eqV,h,z24 h]
theorem zN1 (ds:List Int):(ds.map PyData.int).all sR=true:=by
 rw[List.all_map,ya8];intro z _;rfl
theorem gF {fo:Fo}{told:List (List PyData)}{c y:Int}{rs:List Int}{i:Nat}(hy:y=c+1+i)(hr:∀x,x∈rs↔x<=c+i/\wR fo told c x):wR fo told c y↔∃b∈rs,edB fo told b y:=by
 constructor
 ·intro h;rcases h.last with e|⟨x,d,a⟩
  ·omega
  ·have:=a.1;exact⟨x,(hr x).mpr ⟨by omega,d⟩,a.2⟩
 ·rintro⟨b,hb,he⟩;obtain⟨d,a⟩:=(hr b).mp hb;exact .snoc a ⟨by omega,he⟩
theorem mB {C:Addr}(F:FnD K mg "is_held_off" mS ["books","stay","some"])(nb:NbT mg)(p:mg "dict"=none)(R:Cal P w K mg base "leads_to" 4 (pA C cs)):Cal P w K mg base "is_held_off" 5 (vG C cs):=by
 refine zZ ["books","stay","some","force","reached","day"] F λ_ _ L _ _ _ _ _ Q nd hr h=>?_;obtain⟨told,c,g,l,rfl,J,H,v,O,q⟩:=h;obtain⟨N,cg,B,g1⟩:=id v;refine yj 3 nd (cU rfl hr.units (by rfl) p (EvL.d (yN ["hindrance"] [none] (.one 0) (zQ (zj 2 rfl ⟨_,rfl,?_⟩)))));refine⟨by rw[zX7];omega,?_⟩;refine yu (λh=>prD (hK h,.bool true)) (λh M=>⟨_,rfl,λ_ _ _ _ _ k=>?_⟩) ?_
 ·and_intros;exact k
 refine⟨l.map λh=>(hK h,.bool true),by rw[z55]<;>rfl,λD s=>?_⟩;have I:foT D=xg l:=by funext n x z;exact zi6 s n x z
 refine xO 4 nd ?_;and_intros;refine zX (.one 5) (vA (by rfl) nb.range ?_);and_intros;refine⟨⟨by omega,by omega,by omega,by omega⟩,?_⟩;refine zK (λi α=>∃(m:Option A) (rs:List Int),α=[some (.dat (xF C cs told)),some (.dat (.tuple [.int c,.int g])),some (.dat (.list (l.map hD))),some (.dat (tL D)),some (.own (rs.map .int)),m]/\rs.length<=1+i/\∀x,x∈rs↔x<=c+i/\wR (xg l) told c x) ⟨none,[c],rfl,by simp,λx=>?_⟩ ?_ ?_
 ·constructor
  ·intro h;rw[zY2.mp h];exact⟨by omega,.nil⟩
  ·rintro⟨E,f⟩;have:=f.le;rw[show x=c by omega];exact zY2.mpr rfl
 ·rintro i x α t ⟨m,rs,rfl,G,a⟩;rw[zZ1,zZ6]at t;obtain⟨u,o,rfl⟩:=t;have hi:=(zX9.mp o).1;rw[zk]at hi;rw[yo hi]at o;cases o;have ts:=gF (fo:=xg l) (told:=told) (c:=c) (y:=c+1+(i:Int)) rfl a;refine⟨_,rfl,?_⟩;refine uq (vD 4 rfl ?_);and_intros;refine⟨told,rs,c+1+(i:Int),D,rfl,J,H,λb hb=>?_,?_⟩
  ·obtain⟨E,f⟩:=(a b).mp hb;have:=f.le;exact⟨by omega,by omega,by omega,by omega⟩
  rw[I];and_intros;refine xm (λf=>?_) (λf=>?_)
  ·have f:=ts.mpr (rB.mp f);and_intros;refine⟨by rw[zX7];omega,?_⟩;and_intros;refine⟨_,rs++[c+1+(i:Int)],by rw[z39]<;>rfl,by simp;omega,λx=>?_⟩;rw[z01,zY2,a]
   constructor
   ·rintro(⟨r,j⟩|rfl)
    ·exact⟨by omega,j⟩
    ·exact⟨by omega,f⟩
   ·rintro⟨r,j⟩;by_cases e:x=c+1+(i:Int)
    ·exact .inr e
    ·exact .inl ⟨by omega,j⟩
  ·and_intros;refine⟨_,rs,rfl,by omega,λx=>?_⟩;rw[a]
   constructor
   ·rintro⟨r,j⟩;exact⟨by omega,j⟩
   ·rintro⟨r,j⟩;by_cases e:x=c+1+(i:Int)
    ·subst e;rw[fJ (ts.mp j)]at f;cases f
    ·exact⟨by omega,j⟩
 ·rintro α ⟨m,rs,rfl,G,a⟩;rw[zX7,zk]at a;refine xR (pU 4 rfl ?_);and_intros;refine ink rfl (zN1 _) ?_;rw[inI];refine⟨rfl,?_⟩;rw[show decide (g∈rs)=tr (wR (xg l) told c g) by
   rw[ya0,decide_eq_true_iff,rB,a];exact⟨λz=>z.2,λz=>⟨by omega,z⟩⟩]
  exact q
theorem ku (told:List (List PyData))(c g:Int)(ss:List H3)(b:told.length<=4)(h:g<=c+14):(vU told c g ss).length<=300:=by
 have d:=z57 (λh=>inH ss h) (zl 0 told c g);have a:=xt c g told 0;rw[<-yd,zX7]at a;have e:told.length*(5*(g-c).toNat)<=4*70:=yf1 b (by omega);unfold vU;omega
theorem oX {C:Addr}(F:FnD K mg "holds_off" pw ["books","stay","some"])(nb:NbT mg)(n:Cal P w K mg base "hindrances" 4 (tZ C cs))(i:Cal P w K mg base "is_held_off" 5 (vG C cs)):Cal P w K mg base "holds_off" 6 (sg C cs):=by
 refine zZ ["books","stay","some"] F λ_ _ _ _ _ _ _ _ Q nd hr h=>?_;obtain⟨told,c,g,ss,rfl,f,b,e,ws,q⟩:=h;obtain⟨m,cg,a,g1⟩:=id e;refine xR (pN i (hr.mono (by decide)) (by rfl) (zq (zj 0 rfl (zq (zj 1 rfl (zq (EvL.d (yN ["hindrance","some"] [none,some 2] (.one 0) (zQ (EvL.d ?_))))))))));and_intros;refine⟨told,c,g,rfl,f,b,m,cg,a,g1,?_⟩;and_intros;rw[<-yd];refine⟨?_,?_⟩
 ·have j:=xt c g told 0;rw[<-yd]at j;have o:told.length*(5*(g-c).toNat)<=4*70:=yf1 b (by omega);omega
 refine yE (λh=>inH ss h) hD (λh l=>⟨_,rfl,λ_ _ _ _ _ k=>?_,λ_ _ _ _ _ _ k=>?_⟩) ?_
 ·refine xW (zH9 hr.units (zj 0 rfl (zj 1 rfl ⟨_,rfl,oF (wb c g told 0 h l),pW ws,rX h,nh ss,rZ h,?_⟩)));rw[cX];and_intros;exact k
 ·and_intros;exact k
 rw[z37];and_intros;exact⟨told,c,g,vU told c g ss,rfl,f,b,e,ku told c g ss b a,q⟩
end
end K94
namespace L2
open PySem PySem.Spec PyProof.Rows
theorem zI1 {X:Cx}{α:Ev}{E:yp}{rest:List Stmt}{pos p q:Pos}(i y:Nat){x n:Str}{ds:List PyData}(B:X.N.Nodup)(hy:α[y]?=some (some (.own ds)))(hne:y≠i)(h:SvS X ((α.set y none).set i (some (.own ds))) rest E)(hn:X.N[y]?=some n:=by rfl)(J:Vis X.env.scope n:=by first|exact Or.inl rfl|exact Or.inr (Or.inl rfl)|exact Or.inr (Or.inr rfl))
  (f:(n == ("__debug__":Str))=false:=by decide) (g:(n == ("__classdict__":Str))=false:=by decide) (hi:X.N[i]?=some x:=by rfl) (C:Loc X.env.scope x:=by first|exact Or.inl rfl|exact Or.inr rfl)
  (K:swapsWith (.Name n p) (some (.Name x q)) pos.line X.env=pure false:=by rfl) (hf:X.fn x=true\/X.env.scope.names.lookup x=some .local:=by first|exact .inl rfl|exact .inr rfl|assumption):SvS X α (.Assign [.Name x q] (.Name n p) pos::rest) E:=λF σ H D m r=>by
 refine⟨_,zy (xP B hi C (yF hn J f g) K hf) zE,?_⟩;obtain⟨l,xs,j,_⟩:=m.own y ds hy;refine⟨.ref l,j,h F _ H D ?_ r⟩;have v:=m.len;have key:∀{k:Nat} {a:A},((α.set y none).set i (some (.own ds)))[k]?=some (some a)->k<α.length/\((k=i/\a=.own ds)\/(k≠i/\k≠y/\α[k]?=some (some a))):=λ{k a} e=>by
  have hk:=(zX9.mp e).1;rw[z31,z31]at hk;rcases zz e with⟨rfl,z⟩|⟨c,b⟩
  ·cases z;exact⟨hk,.inl ⟨rfl,rfl⟩⟩
  ·rcases zz b with⟨_,z⟩|⟨z3,I⟩
   ·cases z
   ·exact⟨hk,.inr ⟨λw=>c w.symm,λw=>z3 w.symm,I⟩⟩
 refine m.reidx (λk=>if k=i then y else k) (by rw[z31,z31,z31];exact v) (λk a s e1 d=>?_) λk M a L e o z=>?_
 ·obtain⟨hk,⟨rfl,rfl⟩|⟨hne,u,e⟩⟩:=key e1
  ·rw[if_pos rfl];rw[z94 (by omega)]at d;cases d;exact⟨hy,j⟩
  ·rw[if_neg hne];rw[z50 (λw=>hne w.symm)]at d;exact⟨e,d⟩
 ·rcases(key e).2 with⟨c,_⟩|⟨c,G,_⟩
  ·rcases(key o).2 with⟨b,_⟩|⟨b,t,_⟩
   ·omega
   ·rw[if_pos c,if_neg b]at z;exact absurd z.symm t
  ·rcases(key o).2 with⟨b,_⟩|⟨b,t,_⟩
   ·rw[if_neg c,if_pos b]at z;exact absurd z G
   ·rw[if_neg c,if_neg b]at z;exact z
end L2
namespace K94
open PySem PySem.Spec PyProof.Rows L2
abbrev zk8 :Stmt:=top 23
noncomputable def ym (told:List (List PyData))(c g:Int)(a:List H3):Bool:=!tr (wR (xg a) told c g)
def wo (h:H3)(a:List H3):List H3:=a.filter λx=>!decide (x=h)
noncomputable def tN (held:List H3->Bool)(left:List H3):List H3->List H3
 |[]=>left
 |h::r=>tN held (if held (wo h left)then wo h left else left) r
noncomputable def lL (told:List (List PyData))(c g:Int):List H3:=tN (ym told c g) (zl 0 told c g) (zl 0 told c g)
theorem uJ (held:List H3->Bool)(h:H3):∀(r:List H3) (left:List H3),tN held left (r++[h])=(if held (wo h (tN held left r))then wo h (tN held left r)else tN held left r)
 |[],left=>rfl
 |x::r,left=>by
  show tN held _ (r++[h])=_;rw[uJ held h r];rfl
theorem wR.mono {fo a:Fo}{told:List (List PyData)}{c g:Int}(h:∀n x z,fo n x z=true->a n x z=true)(t:wR a told c g):wR fo told c g:=by
 have lt:∀n ds b e,vH a n ds b e=true->vH fo n ds b e=true:=by
  intro n ds b e q;have im:∀n x z,a n x z=false->fo n x z=false:=λn x z e=>by
   cases w:fo n x z with
   |false=>rfl
   |true=>rw[h n x z w]at e;cases e
  unfold vH at q ⊢;simp only[z21,z90,yc8,yh0,yf6]at q ⊢;obtain⟨⟨f,d⟩,m,i,l⟩:=q;refine⟨⟨im _ _ _ f,im _ _ _ d⟩,m.imp (im _ _ _) id,i.imp (im _ _ _) id,λz hz=>?_⟩;have:=l z hz;rw[Bool.not_eq_true]at this ⊢;exact im _ _ _ this
 induction t with
 |nil=>exact .nil
 |snoc _ e k=>
  obtain⟨e1,n,ds,o,j⟩:=e;exact .snoc k ⟨e1,n,ds,o,lt _ _ _ _ j⟩
theorem qF {told:List (List PyData)}{c g:Int}{b a:List H3}(h:∀x∈b,x∈a)(e:ym told c g b=true):ym told c g a=true:=by
 unfold ym at e ⊢;rw[z90]at e ⊢;refine zg3 λt=>?_;rw[fJ (wR.mono (λn x z q=>wx.mpr (h _ (wx.mp q))) t)]at e;cases e
theorem rf {h x:H3}{a:List H3}:x∈wo h a↔x∈a/\x≠h:=by
 unfold wo;rw[z58];simp
structure qE (hf:List H3->Bool)(all left:List H3)(i:Nat):Prop where
 sub:∃p:H3->Bool,left=all.filter p
 held:hf left=true
 need:∀h∈all.take i,h∈left->hf (wo h left)=false
theorem aw {held:List H3->Bool}(mono:∀{a b:List H3},(∀x∈a,x∈b)->held a=true->held b=true){all left:List H3}{i:Nat}{h:H3}(hi:all[i]?=some h)(w:qE held all left i):qE held all (if held (wo h left)then wo h left else left) (i+1):=by
 obtain⟨⟨p,g⟩,l,f⟩:=w;have nf:∀{a b:List H3},(∀x∈a,x∈b)->held b=false->held a=false:=λ{a b} s e=>by
  cases q:held a with
  |false=>rfl
  |true=>rw[mono s q]at e;cases e
 by_cases c:held (wo h left)=true
 ·rw[if_pos c];refine⟨⟨λx=>p x&&!decide (x=h),?_⟩,c,λx d hm=>?_⟩
  ·rw[g];unfold wo;rw[yi5]
   congr 1;funext x;rw[Bool.and_comm]
  ·rw[z45,hi]at d;obtain⟨m1,m2⟩:=rf.mp hm;rcases z01.mp d with d|d
   ·exact nf (λy hy=>by
     obtain⟨j,k⟩:=rf.mp hy;exact rf.mpr ⟨(rf.mp j).1,k⟩) (f x d m1)
   ·have:x=h:=by simpa using d
    exact absurd this m2
 ·rw[if_neg c];refine⟨⟨p,g⟩,l,λx d hm=>?_⟩;rw[z45,hi]at d;rcases z01.mp d with d|d
  ·exact f x d hm
  ·have:x=h:=by simpa using d
   rw[this];cases q:held (wo h left)with
   |false=>rfl
   |true=>exact absurd q c
theorem oJ {held:List H3->Bool}(mono:∀{a b:List H3},(∀x∈a,x∈b)->held a=true->held b=true)(all:List H3)(h0:held all=true):∀i,i<=all.length->qE held all (tN held all (all.take i)) i
 |0,_=>⟨⟨λ_=>true,by rw[List.take_zero];show all=_;rw[List.filter_eq_self.mpr λ_ _=>rfl]⟩,h0,λh hm=>by simp at hm⟩
 |i+1,hi=>by
  have c:=oJ mono all h0 i (by omega);have e:all[i]?=some all[i]:=zY0 (by omega);have:=aw mono e c;rw[z45,e];show qE held all (tN held all (all.take i++[all[i]])) (i+1);rw[uJ];exact this
theorem zE0 {told:List (List PyData)}{c g:Int}(h0:ym told c g (zl 0 told c g)=true):qE (ym told c g) (zl 0 told c g) (lL told c g) (zl 0 told c g).length:=by
 have:=oJ (held:=ym told c g) (λ{a b}=>qF) (zl 0 told c g) h0 _ (zY1 _);rw[z40]at this;exact this
def zu9 (C:Addr)(cs:Cs):Ph:=λas Q=>∃(told:List (List PyData)) (c g:Int),as=[.dat (xF C cs told),.dat (.tuple [.int c,.int g])]/\(∀ds∈told,Rules ds)/\told.length<=4/\SB c g/\ym told c g (zl 0 told c g)=true/\Q (.own ((lL told c g).map hD))
def bN (C:Addr)(cs:Cs)(a:Addr):List A->(A->Prop)->(PyData->Prop)->Prop:=λas _ q=>∃(told:List (List PyData)) (c g:Int),as=[.dat (xF C cs told),.dat (.tuple [.int c,.int g])]/\(∀ds∈told,Rules ds)/\told.length<=4/\SB c g/\ym told c g (zl 0 told c g)=false/\q (xD0 a)
theorem jB :∀(a:List H3),xQ (a.map hD)=true
 |[]=>rfl
 |h::r=>by
  show(noL (hD h)&&xQ (r.map hD))=true;rw[jB r];rfl
theorem nL {told:List (List PyData)}{c g:Int}(b:told.length<=4)(h:g<=c+14):(zl 0 told c g).length<=300:=by
 have a:=xt c g told 0;rw[<-yd,zX7]at a;have d:told.length*(5*(g-c).toNat)<=4*70:=yf1 b (by omega);omega
theorem mY {h:H3}(w:h.2.1∈words):SeqAt.shaped (hD h)=true:=by
 have a:=oF w;have b:=rZ h;unfold SeqAt.shaped;rw[a,z28 (by omega:(hD h).depth<=64)];rfl
section
variable {P:Program}{w:World}{K:PySem.W.Frag}{mg:Str->Option Value}{base:Heap}{cs:Cs}
theorem zl3 {C:Addr}(F:FnD K mg "why" zk8 ["books","stay"])(nb:NbT mg)(G:Cal P w K mg base "hindrances" 4 (tZ C cs))(H:Cal P w K mg base "is_held_off" 5 (vG C cs)):Cal P w K mg base "why" 6 (zu9 C cs):=by
 refine zZ ["books","stay","left","hindrance","fewer"] F λ_ _ E _ _ _ _ _ Q nd hr h=>?_;obtain⟨told,c,g,rfl,o,f,j,t,q⟩:=h;obtain⟨z,cg,e,g1⟩:=id j;have hlen:=nL (told:=told) f e;refine xO 2 nd ?_;and_intros;refine⟨told,c,g,rfl,o,f,z,cg,e,g1,_,rfl,?_⟩;rw[<-yd];refine uq (vD 2 rfl ?_);and_intros;refine⟨told,c,g,zl 0 told c g,rfl,o,f,j,hlen,?_⟩;rw[show(!tr (wR (xg (zl 0 told c g)) told c g))=true from t];refine⟨_,rfl,?_⟩;refine uB rfl (zS ?_);refine zX (.one 3) (zQ (EvL.d (oo 2 rfl (pL (by rfl) nb.list (zj 2 rfl ⟨_,rfl,jB _,_,rfl,?_⟩)))));have D:∀i,i<=(zl 0 told c g).length->qE (ym told c g) (zl 0 told c g) (tN (ym told c g) (zl 0 told c g) ((zl 0 told c g).take i)) i:=oJ (λ{a b}=>qF) _ t;refine zK (λi α=>∃(l m:Option A),α=[some (.dat (xF C cs told)),some (.dat (.tuple [.int c,.int g])),some (.own ((tN (ym told c g) (zl 0 told c g) ((zl 0 told c g).take i)).map hD)),l,m]) ⟨none,none,rfl⟩ ?_ ?_
 ·rintro i x α u ⟨l,m,rfl⟩;rw[zZ1,zZ6]at u;obtain⟨h,r,rfl⟩:=u;have hi:=(zX9.mp r).1;have w:=D i (by omega);have sn:=uJ (ym told c g) h ((zl 0 told c g).take i) (zl 0 told c g);rw[<-take_snoc r]at sn;rw[sn];generalize tN (ym told c g) (zl 0 told c g) ((zl 0 told c g).take i)=left at w;obtain⟨⟨p,s⟩,_,_⟩:=w;have wl:Wd left:=λy hy=>by rw[s]at hy;exact wb c g told 0 y (z58.mp hy).1
  have v:left.length<=300:=by rw[s];exact zY8 (z57 _ _) hlen
  have B:=wb c g told 0 h (z23 r);refine⟨_,rfl,?_⟩;refine zD1 2 4 ["other","hindrance"] [none,some 3] (.one 0) rfl (zQ (zj 2 rfl ⟨_,rfl,?_⟩));refine⟨by rw[zX7];omega,?_⟩;refine yE (λy=>!decide (y=h)) hD (λy hy=>⟨_,rfl,λ_ _ _ _ _ k=>?_,λ_ _ _ _ _ _ k=>?_⟩) ?_
  ·refine xW ?_;and_intros;refine eqk (mY (wl y hy)) (mY B) (rX y) (rX h) ?_;rw[bS];exact k
  ·and_intros;exact k
  rw[z37];refine⟨jB _,?_⟩;show SvS _ (List.set _ 4 (some (.own ((wo h left).map hD)))) _ _;have lw:(wo h left).length<=300:=zY8 (z57 _ _) v;refine uq (vD 4 rfl ?_);and_intros;refine⟨told,c,g,wo h left,rfl,o,f,j,lw,?_⟩;refine⟨_,rfl,?_⟩;show SvS _ _ (if ym told c g (wo h left)=true then _ else _) _;refine xm (λn=>?_) (λn=>?_)
  ·rw[if_pos n];refine zI1 2 4 nd rfl (by decide) (zS (zS ?_));exact⟨_,_,rfl⟩
  ·rw[if_neg (by rw[n];decide)];and_intros;exact⟨_,_,rfl⟩
 ·rintro α ⟨l,m,rfl⟩;rw[zX7,z40];exact wH 2 rfl q
theorem zs2 :zI ((["books","stay","left","hindrance","fewer"]:List Str)++[("":Str)]) ["books","stay"] (zd zk8):=.o
theorem dC {C i:Addr}(F:FnD K mg "why" zk8 ["books","stay"])(nb:NbT mg)(k:Cal P w K mg base "hindrances" 4 (tZ C cs))(n:Cal P w K mg base "is_held_off" 5 (vG C cs))(p:zC7 K mg "Had" i):zr4 P w K mg base "why" 6 (bN C cs i):=by
 obtain⟨f,fd,F,hm,hb⟩:=F;refine zW4 F hm hb zs2 (by decide) (λas Q q h=>?_) (λcdv u outer s H E as Q q r xe hr h o=>?_)
 ·obtain⟨told,c,g,rfl,_⟩:=h;rfl
 ·obtain⟨told,c,g,rfl,e,b,d,l,t⟩:=h;obtain⟨m,cg,a,g1⟩:=id d;have nd:=zs2.nd;have hlen:=nL (told:=told) b a;refine xO 2 nd (vW k (hr.mono (by decide)) (by rfl) (zq (zj 0 rfl (zq (zj 1 rfl (zH ⟨told,c,g,rfl,e,b,m,cg,a,g1,_,rfl,?_⟩))))));rw[<-yd];refine uq (vD 2 rfl (zc3 (bq (pN n (hr.mono (by decide)) (by rfl) (zq (zj 0 rfl (zq (zj 1 rfl (zq (zj 2 rfl (zH ⟨told,c,g,zl 0 told c g,rfl,e,b,d,hlen,?_⟩)))))))))));rw[show(!tr (wR (xg (zl 0 told c g)) told c g))=false from l];refine⟨_,rfl,?_⟩;refine uE rfl ?_;exact gj (j:=5) o rfl p (by rfl) rfl (leX.nil rfl) (vY t)
end
abbrev zL5 :Stmt:=top 57
abbrev sLW :Stmt:=top 58
abbrev ze3 :Stmt:=top 59
abbrev bf :Stmt:=top 60
abbrev zz4 :Stmt:=top 61
def wI (Bs:List (List PyData)):Prop:=∀ds∈Bs,zv ds
def upH (Bs:List (List PyData))(x y:Int):Prop:=x<y/\∃(n:Nat) (ds:List PyData),Bs[n]?=some ds/\rq ds x y=true
structure WOk (Bs:List (List PyData))(c:Int)(k:Nat)(W:List L2.Way):Prop where
 len:W.length<=k+1
 bd:∀w∈W,c<=w.1/\w.1<=c+k/\yD W w.1=some w.2/\(w.1=c\/∃u∈W,∃n,u.1<w.1/\w.2.2=some (u.1,w.1,n))
 iff:∀d,d<=c+k->(Way (upH Bs) c d↔∃w∈W,w.1=d)
noncomputable def bw (Bs:List (List PyData))(c g:Int):Str:=if tr (Way (upH Bs) c g)=true then "had" else "off"
def zr8 (C:Addr)(cs:Cs):Ph:=λas Q=>∃(Bs:List (List PyData)) (W:List L2.Way) (day:Int),as=[.dat (xF C cs Bs),.dat (yS (W.map tM)),.dat (.int day)]/\wI Bs/\Bs.length<=8/\W.length<=20/\(∀w∈W,vO w.1 day/\yD W w.1=some w.2)/\
 ∀L:List (Int×Part),(∀p∈L,∃w∈W,∃n,p.2=(w.1,day,n)/\upH Bs w.1 day)->(∀w∈W,upH Bs w.1 day->L≠[])->Q (.own (L.map ue))
def zT9 (C:Addr)(cs:Cs):Ph:=λas Q=>∃(Bs:List (List PyData)) (c g:Int),as=[.dat (xF C cs Bs),.dat (.tuple [.int c,.int g])]/\wI Bs/\Bs.length<=8/\vO c g/\∀W,WOk Bs c (g-c).toNat W->Q (.dat (yS (W.map tM)))
def hV :Ph:=λas Q=>∃(Bs:List (List PyData)) (W:List L2.Way) (c g:Int),as=[.dat (yS (W.map tM)),.dat (.tuple [.int c,.int g])]/\WOk Bs c (g-c).toNat W/\vO c g/\(∃w∈W,w.1=g)/\∀ps:List Part,Q (.own (ps.map wK))
def jO :Ph:=λas Q=>∃(Bs:List (List PyData)) (W:List L2.Way) (c g:Int),as=[.dat (yS (W.map tM)),.dat (.tuple [.int c,.int g])]/\WOk Bs c (g-c).toNat W/\vO c g/\∀zs:List Int,Q (.own (zs.map .int))
def aG (C:Addr)(cs:Cs):Ph:=λas Q=>∃(Bs:List (List PyData)) (c g:Int),as=[.dat (xF C cs Bs),.dat (.tuple [.int c,.int g])]/\wI Bs/\Bs.length<=8/\vO c g/\∀S r,Q (.deep (.tuple (.str (bw Bs c g)::r)) S)
theorem wX {α:Type}{f:α->PyData}(h:∀x,noL (f x)=true)(l:List α):xQ (l.map f)=true:=by
 induction l with
 |nil=>rfl
 |cons x l a=>rw[z03,xQ,h x,a]<;>rfl
theorem rz {α:Type}{f:α->PyData}(h:∀x,(f x).hasDict=false)(l:List α):PyData.hasDictAll (l.map f)=false:=by
 induction l with
 |nil=>rfl
 |cons x l a=>rw[z03,PyData.hasDictAll,h x,a]<;>rfl
theorem zd1 {W:List L2.Way}{u:L2.Way}{d:Int}(h:u.1≠d):yD (W++[u]) d=yD W d:=by
 unfold yD;rw[List.find?_append,List.find?_cons_of_neg (by simpa using h)];simp
theorem WOk.none {Bs:List (List PyData)}{c:Int}{k:Nat}{W:List L2.Way}(h:WOk Bs c k W)(no:∀w∈W,¬upH Bs w.1 (c+1+k)):WOk Bs c (k+1) W:=by
 refine⟨by have:=h.len;omega,λw hw=>?_,λd hd=>?_⟩
 ·obtain⟨a,f,b⟩:=h.bd w hw;exact⟨a,by omega,b⟩
 ·by_cases e:d<=c+k
  ·exact h.iff d e
  have e:d=c+1+k:=by omega
  subst e;refine⟨λt=>?_,λ⟨w,hw,e⟩=>by have:=(h.bd w hw).2.1;omega⟩;rcases t.last with e|⟨y,t,u⟩
  ·omega
  ·obtain⟨w,hw,rfl⟩:=(h.iff y (by have:=u.1;omega)).mp t;exact absurd u (no w hw)
theorem WOk.add {Bs:List (List PyData)}{c x:Int}{k n:Nat}{W:List L2.Way}{w:L2.Way}(h:WOk Bs c k W)(hw:w∈W)(u:upH Bs w.1 (c+1+k)):WOk Bs c (k+1) (W++[(c+1+k,x,some (w.1,c+1+k,n))]):=by
 have nf:∀v∈W,v.1≠c+1+k:=λv a=>by have:=(h.bd v a).2.1;omega
 refine⟨by have:=h.len;simp;omega,λv a=>?_,λd hd=>?_⟩
 ·rcases z01.mp a with a|a
  ·obtain⟨f,j,i,g⟩:=h.bd v a;refine⟨f,by omega,(zd1 (nf v a).symm).trans i,g.imp id ?_⟩;rintro⟨u,b,z⟩;exact⟨u,z41 _ b,z⟩
  ·rw[zY2.mp a];have:=(h.bd w hw).2.1;refine⟨by show c<=c+1+k;omega,by show c+1+k<=_;omega,?_,.inr ⟨w,z41 _ hw,n,by show w.1<c+1+k;omega,rfl⟩⟩;unfold yD;rw[List.find?_append,yb7.mpr λv a=>by simpa using nf v a];simp
 ·by_cases e:d<=c+k
  ·rw[h.iff d e];refine⟨λ⟨v,a,z⟩=>⟨v,z41 _ a,z⟩,λ⟨v,a,z⟩=>?_⟩;rcases z01.mp a with a|a
   ·exact⟨v,a,z⟩
   ·rw[zY2.mp a]at z;have z:c+1+k=d:=z;omega
  ·have e:c+1+k=d:=by omega
   exact⟨λ_=>⟨_,z05 _ (zY2.mpr rfl),e⟩,λ_=>by subst e;exact .snoc ((h.iff w.1 (h.bd w hw).2.1).mpr ⟨w,hw,rfl⟩) u⟩
section
variable {P:Program}{w:World}{K:PySem.W.Frag}{mg:Str->Option Value}{base:Heap}{cs:Cs}
theorem zh2 {C:Addr}(F:FnD K mg "arrivals" zL5 ["books","ways","day"])(nb:NbT mg)(G:Cal P w K mg base "cost_or_none" 6 (zz5 C cs)):Cal P w K mg base "arrivals" 7 (zr8 C cs):=by
 refine zZ ["books","ways","day","found","begin","number","book","coins"] F λ_ _ E _ _ _ _ _ Q nd hr h=>?_;obtain⟨Bs,W,day,rfl,D,bl,wl,ws,q⟩:=h;and_intros;refine zX (.one 4) (zn9 (zj 1 rfl ⟨_,rfl,?_⟩));refine zK (λi α=>∃(L:List (Int×Part)) (o c b f:Option A),L.length<=i*8/\(∀p∈L,∃w∈W,∃n,p.2=(w.1,day,n)/\upH Bs w.1 day)/\(∀w∈W.take i,upH Bs w.1 day->L≠[])/\α=[some (.dat (xF C cs Bs)),some (.dat (yS (W.map tM))),some (.dat (.int day)),some (.own (L.map ue)),o,c,b,f]) ⟨[],none,none,none,none,by simp,by simp,by simp,rfl⟩ ?_ ?_
 ·rintro i d α hd ⟨L,o,c,b,f,g,l1,l2,rfl⟩;rw[zZ1,zZ1,Option.map_map,zZ6]at hd;obtain⟨u,r,rfl⟩:=hd;have v:=z23 r;have hi:=(zX9.mp r).1;refine⟨_,rfl,zX (.many [5,6]) (uj (by rfl) nb.enumerate (zj 0 rfl ⟨_,rfl,?_⟩))⟩;refine zK (λj α=>∃(L:List (Int×Part)) (c b f:Option A),L.length<=i*8+j/\(∀p∈L,∃w∈W,∃n,p.2=(w.1,day,n)/\upH Bs w.1 day)/\(∀w∈W.take i,upH Bs w.1 day->L≠[])/\(∀n ds,n<j->Bs[n]?=some ds->rq ds u.1 day=true->L≠[])/\α=[some (.dat (xF C cs Bs)),some (.dat (yS (W.map tM))),some (.dat (.int day)),some (.own (L.map ue)),some (.dat (.int u.1)),c,b,f]) ⟨L,c,b,f,g,l1,l2,λn _ h=>absurd h (Nat.not_lt_zero n),rfl⟩ ?_ ?_
  ·rintro j d α hd ⟨L,c,b,f,g,l1,l2,l3,rfl⟩;obtain⟨e,he,rfl⟩:=xv hd;rw[zZ1,zZ6]at he;obtain⟨ds,a,rfl⟩:=he;have H:=(zX9.mp a).1;obtain⟨s,y⟩:=ws u v;refine⟨_,rfl,yj 7 nd ?_⟩;and_intros;refine⟨ds,u.1,day,rfl,D ds (z23 a),s,λm x=>?_,λm=>?_⟩<;>and_intros
   ·refine uu (k:=.inl u.1) rfl (by rw[yY,y]<;>rfl) ?_;and_intros;refine⟨by rw[zX7];omega,?_⟩;and_intros;refine⟨L++[(u.2.1+x,(u.1,day,j))],_,_,_,by simp;omega,λp l=>?_,by simp,by simp,by rw[z39,yh5]<;>rfl⟩;rcases z01.mp l with l|l
    ·exact l1 p l
    ·rw[zY2.mp l];exact⟨u,v,j,rfl,s.2.1,j,ds,a,m⟩
   ·refine⟨L,_,_,_,by omega,l1,l2,λn ds' hn hb z=>?_,rfl⟩;by_cases e:n=j
    ·subst e;rw[a]at hb;cases hb;rw[m]at z;cases z
    ·exact l3 n ds' (by omega) hb z
  ·rintro α ⟨L,c,b,f,g,l1,l2,l3,rfl⟩;rw[xX,zX7]at g l3;and_intros;refine⟨L,_,_,_,_,by omega,l1,λw hw z=>?_,rfl⟩;rw[z45,r]at hw;rcases z01.mp hw with hw|hw
   ·exact l2 w hw z
   ·obtain⟨_,n,ds,t,B⟩:=z;rw[Option.toList,zY2]at hw;subst hw;exact l3 n ds (zX9.mp t).1 t B
 ·rintro α ⟨L,o,c,b,f,g,l1,l2,rfl⟩;rw[zX7,zX7,z40]at l2;and_intros;exact q L l1 l2
theorem zE2 {C:Addr}(F:FnD K mg "least_ways" sLW ["books","stay"])(nb:NbT mg)(G:Cal P w K mg base "arrivals" 7 (zr8 C cs)):Cal P w K mg base "least_ways" 8 (zT9 C cs):=by
 refine zZ ["books","stay","ways","day","found"] F λ_ _ B _ _ _ _ _ Q nd hr h=>?_;obtain⟨Bs,c,g,rfl,o,bl,⟨E,cg,g1,g2⟩,q⟩:=h;refine zm5 2 nd (aS ?_);and_intros;refine⟨.inl c,rfl,?_⟩;refine zX (.one 3) (vA (by rfl) nb.range ?_);and_intros;refine⟨⟨by omega,by omega,by omega,by omega⟩,?_⟩;refine zK (λi α=>∃(W:List L2.Way) (b f:Option A),WOk Bs c i W/\α=[some (.dat (xF C cs Bs)),some (.dat (.tuple [.int c,.int g])),some (.dic (W.map tM)),b,f]) ⟨[(c,0,none)],none,none,⟨by simp,?_,λd hd=>?_⟩,rfl⟩ ?_ ?_
 ·intro w hw;rw[zY2.mp hw];exact⟨ya6 _,by simp,by simp[yD],.inl rfl⟩
 ·simp only[zY2,exists_eq_left];refine⟨λt=>?_,λe=>e▸.nil⟩
  induction t with
  |nil=>rfl
  |snoc t u l=>
   have:=u.1;have:=l (by omega);simp at hd this;omega
 ·rintro i d α hd ⟨W,b,f,a,rfl⟩;rw[zZ1,zZ6]at hd;obtain⟨z,hz,rfl⟩:=hd;have hi:=(zX9.mp hz).1;rw[zk]at hi;rw[yo hi]at hz;cases hz;have wl:=a.len;refine⟨_,rfl,yj 4 nd (EvL.d (za8 2 rfl ?_))⟩;and_intros;refine⟨Bs,W,c+1+(i:Int),rfl,o,bl,by omega,λu s=>?_,λL l1 l2=>⟨_,rfl,wX (λ_=>rfl) _,?_⟩⟩
  ·obtain⟨D,H,y,_⟩:=a.bd u s;exact⟨⟨by omega,by omega,by omega,by omega⟩,y⟩
  and_intros;cases L with
  |nil=>
   and_intros;exact⟨W,_,_,a.none λw hw u=>l2 w hw u rfl,rfl⟩
  |cons p r=>
   refine uE rfl ?_;refine zm4 2 hr.one rfl (zg9 rfl hr.few (by rfl) nb.min ?_);and_intros;refine⟨by simp,rz (λ_=>rfl) _,bC _,λd hd=>?_,?_⟩
   ·obtain⟨p,_,rfl⟩:=z74.mp hd;exact⟨rfl,by simp[ue,wK,PyData.depth,PyData.depthAll]⟩
   rw[zm6 (by simp)];have k:=dA (ds:=p::r) (by simp);generalize zC2 (p::r)=m at k;obtain⟨x,m⟩:=m;obtain⟨v,j,n,e,u⟩:=l1 _ k;have e:m=(v.1,c+1+(i:Int),n):=e;subst e;and_intros;refine⟨.inl (c+1+(i:Int)),rfl,by rw[zX7];omega,?_⟩;and_intros;have fn:yD W (c+1+(i:Int))=none:=by
    unfold yD;rw[yb7.mpr λv j=>by have:=(a.bd v j).2.1;simp;omega]<;>rfl
   exact⟨_,_,_,a.add (x:=x) (n:=n) j u,by rw[<-df fn]<;>rfl⟩
 ·rintro α ⟨W,b,f,a,rfl⟩;rw[zX7,zk,show(g+1-(c+1)).toNat=(g-c).toNat by omega]at a;refine zC8 2 rfl ?_;and_intros;exact q W a
theorem zh8 (F:FnD K mg "cut_of" ze3 ["ways","stay"])(nb:NbT mg):Cal P w K mg base "cut_of" 1 hV:=by
 refine zZ ["ways","stay","backwards","day","part"] F λ_ _ s _ _ _ _ _ Q nd hr h=>?_;obtain⟨Bs,W,c,g,rfl,j,⟨t,cg,g1,g2⟩,⟨v,r,e⟩,q⟩:=h;and_intros;refine br yh8 (λm α=>∃(f:Option A) (u:L2.Way) (acc:List Part),α=[some (.dat (yS (W.map tM))),some (.dat (.tuple [.int c,.int g])),some (.own (acc.map wK)),some (.dat (.int u.1)),f]/\u∈W/\u.1-c<=m/\acc.length+m<=14) 14 ⟨none,v,[],by rw[e]<;>rfl,r,by omega,by simp⟩ ?_;rintro m α ⟨f,u,acc,rfl,p,b,al⟩;obtain⟨lo,hi,o,h⟩:=j.bd u p;and_intros;refine tu (λa=>?_) (λa=>?_)
 ·have a:u.1≠c:=by simpa using a
  obtain⟨m,rfl⟩:∃k,m=k+1:=⟨m-1,by omega⟩;rcases h with e|⟨y,hy,n,i,e⟩
  ·exact absurd e a
  obtain⟨d,x,l⟩:=u;obtain rfl:l=some (y.1,d,n):=e;have i:y.1<d:=i;have b:d-c<=_:=b;and_intros;refine uu (k:=.inl d) rfl (by rw[yY,show yD W d=_ from o]<;>rfl) ?_;and_intros;refine⟨by rw[zX7];omega,?_⟩;and_intros;exact⟨m,by omega,_,y,acc++[(y.1,d,n)],by rw[z39]<;>rfl,hy,by omega,by simp;omega⟩
 ·refine vB (oo 2 rfl (kb rfl (by rfl) nb.list (by rfl) nb.reversed ?_));and_intros;rw[<-List.map_reverse];exact⟨wX (λ_=>rfl) _,q _⟩
theorem gK (F:FnD K mg "paper_of" bf ["ways","stay"])(nb:NbT mg):Cal P w K mg base "paper_of" 1 jO:=by
 refine zZ ["ways","stay","highest","heights"] F λ_ _ _ _ _ _ _ _ Q nd hr h=>?_;obtain⟨Bs,W,c,g,rfl,a,⟨i,cg,g1,g2⟩,q⟩:=h;have wl:=a.len;refine yj 2 nd (zj2 rfl (by rfl) nb.max (EvL.d (yN ["way"] [none] (.one 0) (zr2 ?_))));and_intros;refine⟨by rw[zX7,zX7];omega,?_⟩;rw[z55];refine yu (λu=>.int u.2.1) (λu f=>⟨_,rfl,λ_ _ _ _ _ k=>?_⟩) ?_
 ·and_intros;exact k
 refine⟨bM W,by unfold bM;rw[z55]<;>rfl,λe=>?_,?_⟩
 ·obtain⟨w,hw,_⟩:=(a.iff c (by omega)).mp .nil;rw[List.map_eq_nil_iff.mp e]at hw;cases hw
 generalize hn:(g-c).toNat=n;refine ji 3 ["day","ways","highest"] [none,some 0,some 2] (.one 0) (vA (by rfl) nb.range ?_);and_intros;refine⟨⟨by omega,by omega,by omega,by omega⟩,by rw[zX7,zk];omega,?_⟩;rw[show(g+1-c).toNat=n+1 by omega];refine yu (λd=>.int (hW W d)) (λd hd=>⟨_,rfl,λ_ _ _ _ _ k=>?_⟩) ?_
 ·and_intros;refine lu (k:=.inl d) rfl ?_;rw[yY];cases e:yD W d with
  |none=>
   and_intros;rw[zl1 e]at k;exact k
  |some p=>
   and_intros;refine uu (k:=.inl d) rfl (by rw[yY,e]<;>rfl) ?_;and_intros;rw[zk2 (x:=p.1) (l:=p.2) e]at k;exact k
 refine pJ 3 rfl ?_;refine vB (yN ["lower","higher"] [none,none] (.many [0,1]) (zJ6 (by rfl) nb.zip ?_));and_intros;have b:(zx c (n+1)).map (λd=>PyData.int (hW W d))=((zx c (n+1)).map (hW W)).map PyData.int:=by rw[z55]<;>rfl
 rw[z37,b,zb8];refine⟨by rw[zX7,zk];omega,?_⟩;refine yu (λd=>.int (hW W (d+1)-hW W d)) (λd hd=>⟨_,rfl,λ_ _ _ _ _ k=>?_⟩) ?_
 ·and_intros;exact k
 ·have:=q ((zx c n).map λd=>hW W (d+1)-hW W d);rw[z55]at this;exact this
theorem za7 {C:Addr}(F:FnD K mg "best" zz4 ["books","stay"])(nb:NbT mg)(i:Cal P w K mg base "least_ways" 8 (zT9 C cs))(j:Cal P w K mg base "cut_of" 1 hV)(m:Cal P w K mg base "paper_of" 1 jO):Cal P w K mg base "best" 9 (aG C cs):=by
 refine zZ ["books","stay","ways"] F λ_ _ _ _ _ _ _ _ Q nd hr h=>?_;obtain⟨Bs,c,g,rfl,f,bl,a,q⟩:=h;obtain⟨n,cg,g1,g2⟩:=id a;and_intros;refine⟨Bs,c,g,rfl,f,bl,a,λW b=>?_⟩;and_intros;refine lu (k:=.inl g) rfl ?_;rw[yY];have hg:=b.iff g (by omega);unfold bw at q;cases e:yD W g with
 |none=>
  rw[zg3 λt=>by
   obtain⟨w,hw,rfl⟩:=hg.mp t;rw[(b.bd w hw).2.2.1]at e;cases e]at q
  refine uE rfl ?_;refine jT (cJ (wy (ko (vY ⟨rfl,?_⟩))));refine wy (oq (zf0 rfl (by rfl) nb.list (zj 2 rfl ⟨_,rfl,?_⟩)));rw[z55];exact⟨wX (λ_=>rfl) _,jZ ⟨z56 rfl,λS=>q S _⟩⟩
 |some p=>
  have d:∃w∈W,w.1=g:=⟨_,find_some (x:=p.1) (l:=p.2) e,rfl⟩;rw[fJ (hg.mpr d)]at q;refine uB rfl (zS ?_);refine jT (cJ (wy (ko (vY ⟨rfl,?_⟩))));refine wy (ko ?_);and_intros;refine uu (k:=.inl g) rfl (by rw[yY,e]<;>rfl) ?_;and_intros;refine⟨rfl,wy (oq ?_)⟩;and_intros;refine⟨Bs,_,c,g,rfl,b,a,d,λps=>⟨_,rfl,wX (λ_=>rfl) _,wy (oq ?_)⟩⟩;and_intros;exact⟨Bs,_,c,g,rfl,b,a,λzs=>⟨_,rfl,wX (λ_=>rfl) _,jZ ⟨z56 rfl,λS=>q S _⟩⟩⟩
end
theorem bp {p:Int->Bool}{lo hi z:Int}:z∈sel p lo hi↔(lo<=z/\z<hi)/\p z=true:=by
 unfold sel;rw[z58,yX]
 constructor
 ·rintro⟨b,a⟩;exact⟨by omega,a⟩
 ·rintro⟨b,a⟩;exact⟨by omega,a⟩
theorem zJ8 {n m:Int}{x y:Str}{z:Int}{l:List Int}:(m,x,z)∈l.map (th n y)↔m=n/\x=y/\z∈l:=by
 rw[z74]
 constructor
 ·rintro⟨a,ha,e⟩;unfold th at e;injection e with e1 b;injection b with b c;subst e1 b c;exact⟨rfl,rfl,ha⟩
 ·rintro⟨rfl,rfl,h⟩;exact⟨z,h,rfl⟩
theorem yh {n m:Int}{ds:List PyData}{c g:Int}{x:Str}{z:Int}:(m,x,z)∈yM n ds c g↔m=n/\((x="price"/\(c<=z/\z<g)/\pPr ds z=true)\/(x="come"/\(c<=z/\z<g)/\pF ds "come" z=true)\/(x="go"/\(c+1<=z/\z<g+1)/\pF ds "go" z=true)\/(x="least"/\(c<=z/\z<g)/\pLe ds z=true)\/(x="most"/\(c<=z/\z<g)/\pMo ds g z=true)):=by
 unfold yM;simp only[z01,zJ8,bp]
 constructor
 ·rintro((((⟨a,b⟩|⟨a,b⟩)|⟨a,b⟩)|⟨a,b⟩)|⟨a,b⟩)
  ·exact⟨a,.inl b⟩
  ·exact⟨a,.inr (.inl b)⟩
  ·exact⟨a,.inr (.inr (.inl b))⟩
  ·exact⟨a,.inr (.inr (.inr (.inl b)))⟩
  ·exact⟨a,.inr (.inr (.inr (.inr b)))⟩
 ·rintro⟨a,b|b|b|b|b⟩
  ·exact .inl (.inl (.inl (.inl ⟨a,b⟩)))
  ·exact .inl (.inl (.inl (.inr ⟨a,b⟩)))
  ·exact .inl (.inl (.inr ⟨a,b⟩))
  ·exact .inl (.inr ⟨a,b⟩)
  ·exact .inr ⟨a,b⟩
theorem uf {c g:Int}{h:H3}:∀{told:List (List PyData)}{m:Nat},h∈zl m told c g↔∃k ds,told[k]?=some ds/\h∈yM ((m+k:Nat):Int) ds c g
 |[],m=>by simp[zl]
 |d::r,m=>by
  show h∈yM m d c g++zl (m+1) r c g↔_;rw[z01,uf (told:=r) (m:=m+1)]
  constructor
  ·rintro(h|⟨k,ds,b,a⟩)
   ·exact⟨0,d,rfl,h⟩
   ·exact⟨k+1,ds,b,by rw[show m+(k+1)=m+1+k by omega];exact a⟩
  ·rintro⟨k,ds,b,a⟩;cases k with
   |zero=>cases b;exact .inl a
   |succ k=>exact .inr ⟨k,ds,b,by rw[show m+1+k=m+(k+1) by omega];exact a⟩
theorem sY {told:List (List PyData)}{c g:Int}{n:Nat}{ds:List PyData}{x:Str}{z:Int}(hn:told[n]?=some ds):((n:Int),x,z)∈zl 0 told c g↔((n:Int),x,z)∈yM n ds c g:=by
 rw[uf]
 constructor
 ·rintro⟨k,ds',b,a⟩;have e:=(yh.mp a).1;have:k=n:=by omega
  subst this;rw[hn]at b;cases b;rw[yh5]at a;exact a
 ·intro h;exact⟨n,ds,hn,by rw[yh5];exact h⟩
structure Lets (fo:Fo)(n:Nat)(ds ds':List PyData)(c g:Int):Prop where
 fp:∀z,c<=z->z<g->fo n "price" z=false->xE (zi ds' "price" z)=false
 fc:∀z,c<=z->z<g->fo n "come" z=false->isF (zi ds' "come" z)=false
 fg:∀z,c<z->z<=g->fo n "go" z=false->isF (zi ds' "go" z)=false
 fl:∀z,c<=z->z<g->intOf (zi ds' "least" z)<=1\/(fo n "least" z=true/\intOf (zi ds' "least" z)=leD ds z)
 fm:∀z,c<=z->z<g->g-z<=intOf (zi ds' "most" z)\/(fo n "most" z=true/\intOf (zi ds' "most" z)=moD ds z)
theorem Lets.had {fo:Fo}{n:Nat}{ds ds':List PyData}{c g b e:Int}(h:Lets fo n ds ds' c g)(f:c<=b)(be:b<e)(o:e<=g)(q:vH fo n ds b e=true):rq ds' b e=true:=by
 unfold vH at q;simp only[z21,z90,yc8,yh0,yf6,z43]at q;obtain⟨⟨l,k⟩,d,a,m⟩:=q;refine pP.mpr ⟨λz p r=>h.fp z (by omega) (by omega) ?_,h.fc b f (by omega) l,h.fg e (by omega) o k,?_,?_⟩
 ·have:=m z (yX.mpr ⟨p,by omega⟩);simpa using this
 ·rcases h.fl b f (by omega)with w|⟨j,i⟩
  ·omega
  ·rw[i];rcases d with d|d
   ·rw[j]at d;cases d
   ·exact d
 ·rcases h.fm b f (by omega)with w|⟨j,i⟩
  ·omega
  ·rw[i];rcases a with a|a
   ·rw[j]at a;cases a
   ·exact a
theorem zf1 {fo:Fo}{told Bs:List (List PyData)}{c g:Int}(d:Bs.length=told.length)(h:∀n ds ds',told[n]?=some ds->Bs[n]?=some ds'->Lets fo n ds ds' c g){y:Int}(t:wR fo told c y)(f:y<=g):Way (upH Bs) c y:=by
 induction t with
 |nil=>exact .nil
 |@snoc x y w e ih=>
  obtain⟨a,n,ds,e1,b⟩:=e;have hn:n<Bs.length:=by rw[d];exact(zX9.mp e1).1
  have hb:=zY0 hn;exact .snoc (ih (by omega)) ⟨a,n,_,hb,(h n ds _ e1 hb).had w.le a f b⟩
theorem ze5 {told:List (List PyData)}{c g:Int}{a:List H3}(h:ym told c g a=false):wR (xg a) told c g:=by
 unfold ym at h;rw[Bool.not_eq_false']at h;exact rB.mp h
def lwD (x:Str):PyData:=if x="price" then .int 3 else if x="come" then .bool true else if x="go" then .bool true else if x="least" then .int 1 else .int 14
structure yV (n:Int)(L:List H3)(ds ds':List PyData):Prop where
 t1:∀{x z},(n,x,z)∈L->zi ds' x z=lwD x
 t2:∀{x z},¬(n,x,z)∈L->zi ds' x z=zi ds x z
theorem eN {told:List (List PyData)}{c g:Int}{n:Nat}{ds ds':List PyData}{F L:List H3}(hn:told[n]?=some ds)(f:g<=c+14)(hF:∀h∈zl 0 told c g,h∈F\/h∈L)(T:yV n L ds ds'):Lets (xg F) n ds ds' c g:=by
 have go:∀{x z},((n:Int),x,z)∈yM n ds c g->¬((n:Int),x,z)∈L->xg F n x z=true:=λ{x z} i d=>by
  rcases hF _ ((sY hn).mpr i)with w|w
  ·exact wx.mpr w
  ·exact absurd w d
 refine⟨λz a b e=>?_,λz a b e=>?_,λz a b e=>?_,λz a b=>?_,λz a b=>?_⟩
 ·by_cases q:((n:Int),("price":Str),z)∈L
  ·rw[T.t1 q];rfl
  ·rw[T.t2 q];cases w:xE (zi ds "price" z)with
   |false=>rfl
   |true=>rw[go (yh.mpr ⟨rfl,.inl ⟨rfl,⟨a,b⟩,w⟩⟩) q]at e;cases e
 ·by_cases q:((n:Int),("come":Str),z)∈L
  ·rw[T.t1 q];rfl
  ·rw[T.t2 q];cases w:isF (zi ds "come" z)with
   |false=>rfl
   |true=>rw[go (yh.mpr ⟨rfl,.inr (.inl ⟨rfl,⟨a,b⟩,w⟩)⟩) q]at e;cases e
 ·by_cases q:((n:Int),("go":Str),z)∈L
  ·rw[T.t1 q];rfl
  ·rw[T.t2 q];cases w:isF (zi ds "go" z)with
   |false=>rfl
   |true=>rw[go (yh.mpr ⟨rfl,.inr (.inr (.inl ⟨rfl,⟨by omega,by omega⟩,w⟩))⟩) q]at e;cases e
 ·by_cases q:((n:Int),("least":Str),z)∈L
  ·rw[T.t1 q];exact .inl (by decide)
  ·rw[T.t2 q];by_cases w:1<intOf (zi ds "least" z)
   ·exact .inr ⟨go (yh.mpr ⟨rfl,.inr (.inr (.inr (.inl ⟨rfl,⟨a,b⟩,z28 w⟩)))⟩) q,rfl⟩
   ·exact .inl (by omega)
 ·by_cases q:((n:Int),("most":Str),z)∈L
  ·rw[T.t1 q];refine .inl ?_;show g-z<=14;omega
  ·rw[T.t2 q];by_cases w:intOf (zi ds "most" z)<g-z
   ·exact .inr ⟨go (yh.mpr ⟨rfl,.inr (.inr (.inr (.inr ⟨rfl,⟨a,b⟩,z28 w⟩)))⟩) q,rfl⟩
   ·exact .inl (by omega)
theorem zn3 {told:List (List PyData)}{c g b e:Int}{n:Nat}{ds ds':List PyData}{W L:List H3}(hn:told[n]?=some ds)(hW:∀h∈W,h∈zl 0 told c g/\¬h∈L)(T:yV n L ds ds')(h:rq ds' b e=true):vH (xg W) n ds b e=true:=by
 obtain⟨m,i,d,j,f⟩:=pP.mp h;have a:∀{x z},xg W n x z=true->zi ds' x z=zi ds x z/\((n:Int),x,z)∈yM n ds c g:=λ{x z} q=>by
  obtain⟨m1,m2⟩:=hW _ (wx.mp q);exact⟨T.t2 m2,(sY hn).mp m1⟩
 have nf:∀{x z},(zi ds' x z=zi ds x z->((n:Int),x,z)∈yM n ds c g->False)->xg W n x z=false:=λ{x z} k=>by
  cases q:xg W n x z with
  |false=>rfl
  |true=>exact(k (a q).1 (a q).2).elim
 unfold vH;simp only[z21,z90,yc8,yh0,yf6,z43];refine⟨⟨nf λt hm=>?_,nf λt hm=>?_⟩,?_,?_,λz hz=>?_⟩
 ·rw[t]at i;rcases(yh.mp hm).2 with⟨w,_⟩|⟨_,_,w⟩|⟨w,_⟩|⟨w,_⟩|⟨w,_⟩
  ·exact absurd w (by decide)
  ·rw[show pF ds "come" b=false from i]at w;cases w
  ·exact absurd w (by decide)
  ·exact absurd w (by decide)
  ·exact absurd w (by decide)
 ·rw[t]at d;rcases(yh.mp hm).2 with⟨w,_⟩|⟨w,_⟩|⟨_,_,w⟩|⟨w,_⟩|⟨w,_⟩
  ·exact absurd w (by decide)
  ·exact absurd w (by decide)
  ·rw[show pF ds "go" e=false from d]at w;cases w
  ·exact absurd w (by decide)
  ·exact absurd w (by decide)
 ·cases q:xg W n "least" b with
  |false=>exact .inl rfl
  |true=>rw[(a q).1]at j;exact .inr j
 ·cases q:xg W n "most" b with
  |false=>exact .inl rfl
  |true=>rw[(a q).1]at f;exact .inr f
 ·have hz:=yX.mp hz;rw[nf λt hm=>?_]
  ·decide
  have l:=m z hz.1 (by omega);rw[t]at l;rcases(yh.mp hm).2 with⟨_,_,w⟩|⟨w,_⟩|⟨w,_⟩|⟨w,_⟩|⟨w,_⟩
  ·rw[show pPr ds z=false from l]at w;cases w
  ·exact absurd w (by decide)
  ·exact absurd w (by decide)
  ·exact absurd w (by decide)
  ·exact absurd w (by decide)
theorem yV.nil {n:Int}{ds:List PyData}:yV n [] ds ds:=⟨λh=>(nomatch h),λ_=>rfl⟩
theorem nP {told Bs:List (List PyData)}{c g:Int}{W L:List H3}(f:Bs.length=told.length)(hW:∀h∈W,h∈zl 0 told c g/\¬h∈L)(T:∀n ds ds',told[n]?=some ds->Bs[n]?=some ds'->yV (n:Nat) L ds ds')(h:ym told c g W=true):bw Bs c g="off":=by
 unfold bw;rw[zg3 λt=>?_]
 ·rfl
 unfold ym at h;rw[fJ]at h
 ·cases h
 clear h
 suffices ∀{b},Way (upH Bs) c b->wR (xg W) told c b from this t
 intro b t
 induction t with
 |nil=>exact .nil
 |snoc _ e d=>
  obtain⟨a,n,ds',e1,i⟩:=e;have hn:n<told.length:=by rw[<-f];exact(zX9.mp e1).1
  have hb:=zY0 hn;exact .snoc d ⟨a,n,_,hb,zn3 hb hW (T n _ _ hb e1) i⟩
theorem md {told Bs:List (List PyData)}{c g:Int}{F L:List H3}(e:Bs.length=told.length)(a:g<=c+14)(hF:∀h∈zl 0 told c g,h∈F\/h∈L)(T:∀n ds ds',told[n]?=some ds->Bs[n]?=some ds'->yV (n:Nat) L ds ds')(t:ym told c g F=false):bw Bs c g="had":=by
 unfold bw;rw[fJ (zf1 e (λn ds ds' b d=>eN b a hF (T n ds ds' b d)) (ze5 t) (ya6 _))];rfl
theorem qM (ds a:List PyData)(x:Str)(day:Int):zi (ds++a) x day=if a.any (tJ x day)=true then zi a x day else zi ds x day:=by
 unfold zi;rw[List.reverse_append,List.find?_append];cases h:a.reverse.find? (tJ x day)with
 |some d=>
  have:a.any (tJ x day)=true:=yb1.mpr ⟨d,yb0.mp (ya5 h),yh9 h⟩;rw[if_pos this];rfl
 |none=>
  have:¬a.any (tJ x day)=true:=λz=>by
   obtain⟨d,hd,b⟩:=yb1.mp z;have:=yb7.mp h d (yb0.mpr hd);exact this b
  rw[if_neg this];rfl
theorem zc5 {told:List (List PyData)}{c g:Int}{ss:List H3}(h:∀x∈ss,x∈zl 0 told c g):xg (vU told c g ss)=xg ss:=by
 funext n x z
 rw[ya0,wx,wx];unfold vU;rw[z58,pE];exact⟨λy=>y.2,λy=>⟨h _ y,y⟩⟩
theorem mQ {told:List (List PyData)}{c g:Int}{ss:List H3}(h:∀x∈ss,x∈zl 0 told c g):(!tr (wR (xg (vU told c g ss)) told c g))=ym told c g ss:=by rw[zc5 h];rfl
abbrev zs9 :Stmt:=top 46
def dw (C:Addr)(cs:Cs):Ph:=λas Q=>∃ds a,as=[.dat (yb C cs ds),.dat (yb C cs a)]/\zv ds/\zv a/\ds.length+a.length<=24/\Q (.dat (yb C cs (ds++a)))
section
variable {P:Program}{w:World}{K:PySem.W.Frag}{mg:Str->Option Value}{base:Heap}{cs:Cs}
theorem zd3 {C:Addr}(F:FnD K mg "laid" zs9 ["elder","newer"])(d:ud P w K mg base "Book" 9 [] (uS C cs))(e:xC P w K mg base C "rules" 3 (iL C cs)):Cal P w K mg base "laid" 11 (dw C cs):=by
 refine zZ ["elder","newer"] F λ_ _ _ _ _ _ _ _ Q nd hr h=>?_;obtain⟨ds,a,rfl,b,re,c,q⟩:=h;and_intros;refine⟨b.rules,by omega,?_⟩;and_intros;refine⟨re.rules,by omega,ds,a,rfl,rfl,by omega,?_⟩;and_intros;exact⟨ds++a,.inl rfl,(b.app re).rules,by rw[zZ9];exact c,q⟩
end
def w5 :List Str:=["price","come","go","least","most"]
def W5 (L:List H3):Prop:=∀h∈L,h.2.1∈w5/\0<=h.2.2/\h.2.2<=1000000
theorem dX {x:Str}(h:x∈w5):x∈words:=by
 simp only[w5,zY4,zZ8,z32]at h;rcases h with rfl|rfl|rfl|rfl|rfl<;>simp[words]
theorem zc8 {told:List (List PyData)}{c g:Int}(b:0<=c)(g1:g<=1000000):W5 (zl 0 told c g):=λh hm=>by
 obtain⟨k,ds,_,a⟩:=uf.mp hm;obtain⟨n,x,z⟩:=h;rcases(yh.mp a).2 with⟨rfl,w,_⟩|⟨rfl,w,_⟩|⟨rfl,w,_⟩|⟨rfl,w,_⟩|⟨rfl,w,_⟩<;>exact⟨by simp[w5],by show 0<=z;omega,by show z<=1000000;omega⟩
def zd0 :List (PyData×PyData):=[(.str "price",.int 3),(.str "come",.bool true),(.str "go",.bool true),(.str "least",.int 1),(.str "most",.int 14)]
theorem eW {x:Str}(h:x∈w5):∃v,rR zd0 x=some (lwD x)/\scV (lwD x)=some v:=by
 simp only[w5,zY4,zZ8,z32]at h;rcases h with rfl|rfl|rfl|rfl|rfl<;>exact⟨_,by with_unfolding_all rfl,by with_unfolding_all rfl⟩
theorem zs0 {x:Str}(w:x∈w5):zP (.str x) (lwD x)=true/\zT 5000 (lwD x)/\(lwD x).depth<=1/\noL (lwD x)=true:=by
 simp only[w5,zY4,zZ8,z32]at w;rcases w with rfl|rfl|rfl|rfl|rfl
 ·exact⟨by decide +kernel,(xB (i:=3) (by decide) (by decide)).mono (by decide),zZ4 _,rfl⟩
 ·exact⟨by decide +kernel,(zT.bool true).mono (by decide),zZ4 _,rfl⟩
 ·exact⟨by decide +kernel,(zT.bool true).mono (by decide),zZ4 _,rfl⟩
 ·exact⟨by decide +kernel,(xB (i:=1) (by decide) (by decide)).mono (by decide),zZ4 _,rfl⟩
 ·exact⟨by decide +kernel,(xB (i:=14) (by decide) (by decide)).mono (by decide),zZ4 _,rfl⟩
def rT (x:Str)(a b:Int):PyData:=.tuple [.str x,.int a,.int b,lwD x]
def cnt (n:Int)(L:List H3):Nat:=(L.filter λh=>decide (h.1=n)).length
structure Lft (n:Int)(L:List H3)(rs:List PyData):Prop where
 sh:∀d∈rs,∃x a b,d=rT x a b/\x∈w5/\0<=a/\a<=b/\b<=1000000
 hit:∀x z,(∃d∈rs,tJ x z d=true)↔(n,x,z)∈L
 len:rs.length<=cnt n L
theorem Lft.ok {n:Int}{L:List H3}{rs:List PyData}(h:Lft n L rs):zv rs:=λd hd=>by
 obtain⟨x,a,b,rfl,c,f,ab,g⟩:=h.sh d hd;obtain⟨j,i,e,_⟩:=zs0 c;exact wZ.of (dX c) f ab g j i e
theorem ke {x u:Str}{a b z:Int}:tJ x z (rT u a b)=true↔u=x/\a<=z/\z<=b:=by
 show(decide (u=x)&&(decide (a<=z)&&decide (z<=b)))=true↔_;simp
theorem Lft.to {n:Int}{L:List H3}{ds rs:List PyData}(h:Lft n L rs):yV n L ds (ds++rs):=by
 have ha:∀{x z},rs.any (tJ x z)=true↔(n,x,z)∈L:=λ{x z}=>by rw[yb1];exact h.hit x z
 refine⟨λ{x z} q=>?_,λ{x z} q=>by rw[qM,if_neg λw=>q (ha.mp w)]⟩;rw[qM,if_pos (ha.mpr q)];unfold zi;cases e:rs.reverse.find? (tJ x z)with
 |none=>
  obtain⟨d,hd,f⟩:=(h.hit x z).mpr q;exact absurd f (yb7.mp e d (yb0.mpr hd))
 |some d=>
  have c:=yh9 e;obtain⟨u,a,b,rfl,_⟩:=h.sh d (yb0.mp (ya5 e));show lwD u=lwD x;rw[(ke.mp c).1]
theorem uo (n:Int)(L:List H3)(h:H3):cnt n (L++[h])=cnt n L+if h.1=n then 1 else 0:=by
 unfold cnt;rw[List.filter_append,zZ9];by_cases e:h.1=n<;>simp[e]
theorem Lft.skip {n:Int}{L:List H3}{rs:List PyData}{h:H3}(k:Lft n L rs)(e:h.1≠n):Lft n (L++[h]) rs:=by
 refine⟨k.sh,λx z=>?_,by rw[uo,if_neg e];exact k.len⟩;rw[k.hit,z01,zY2];exact⟨.inl,λw=>w.elim id λw=>absurd (congrArg (·.1) w).symm e⟩
theorem Lft.add {n:Int}{L:List H3}{rs:List PyData}{h:H3}(k:Lft n L rs)(e:h.1=n)(w:h.2.1∈w5)(f:0<=h.2.2)(g:h.2.2<=1000000):Lft n (L++[h]) (rs++[rT h.2.1 h.2.2 h.2.2]):=by
 obtain⟨m,u,y⟩:=h;obtain rfl:m=n:=e;refine⟨λd hd=>?_,λx z=>?_,by rw[uo,if_pos rfl];simp;exact k.len⟩
 ·rcases z01.mp hd with hd|hd
  ·exact k.sh d hd
  ·exact⟨u,y,y,zY2.mp hd,w,f,ya6 _,g⟩
 ·rw[z01,<-k.hit,zY2];simp only[z01,zY2,or_and_right,exists_or,exists_eq_left,ke];refine or_congr Iff.rfl ⟨λ⟨a,b,c⟩=>?_,λa=>?_⟩
  ·have:y=z:=by omega
   subst a this;rfl
  ·cases a;exact⟨rfl,ya6 _,ya6 _⟩
theorem Lft.join {n:Int}{L:List H3}{rs:List PyData}{h:H3}{a b:Int}(k:Lft n L (rs++[rT h.2.1 a b]))(e:h.1=n)(w:h.2.1∈w5)(hb:b+1=h.2.2)(g:h.2.2<=1000000):Lft n (L++[h]) (rs++[rT h.2.1 a h.2.2]):=by
 obtain⟨m,u,y⟩:=h;obtain rfl:m=n:=e;have hb:b+1=y:=hb;have ab:0<=a/\a<=b:=by
  obtain⟨x,o,j,e,_,l,i,_⟩:=k.sh _ (z05 _ (zY2.mpr rfl));injection e with e;injection e with e1 e;injection e with f e;injection e with c e;injection f with f;injection c with c;omega
 refine⟨λd hd=>?_,λx z=>?_,by have:=k.len;rw[uo,if_pos rfl];simp at this ⊢;omega⟩
 ·rcases z01.mp hd with hd|hd
  ·exact k.sh d (z41 _ hd)
  ·exact⟨u,a,y,zY2.mp hd,w,ab.1,by omega,g⟩
 ·rw[z01,<-k.hit,zY2];simp only[z01,zY2,or_and_right,exists_or,exists_eq_left,ke,or_assoc];refine or_congr Iff.rfl ⟨λ⟨p,q,r⟩=>?_,λp=>?_⟩
  ·by_cases e:z<=b
   ·exact .inl ⟨p,q,e⟩
   ·have:z=y:=by omega
    subst p this;exact .inr rfl
  ·rcases p with⟨p,q,r⟩|p
   ·exact⟨p,q,by show z<=y;omega⟩
   ·cases p;exact⟨rfl,by omega,ya6 _⟩
theorem Lft.nil (n:Int):Lft n [] []:=⟨λd h=>by simp at h,λx z=>by simp,zZ4 _⟩
theorem yV.perm {n:Int}{L M:List H3}{ds ds':List PyData}(h:yV n M ds ds')(p:M.Perm L):yV n L ds ds':=⟨λq=>h.t1 (p.mem_iff.mpr q),λq=>h.t2 λw=>q (p.mem_iff.mp w)⟩
theorem qx (n c g:Int):∀(told:List (List PyData)) (m:Nat),cnt n (zl m told c g)<=5*(g-c).toNat/\(n<m->cnt n (zl m told c g)=0)
 |[],m=>by simp[cnt,zl]
 |ds::r,m=>by
  obtain⟨b,a⟩:=qx n c g r (m+1);have e:cnt n (zl m (ds::r) c g)=cnt n (yM m ds c g)+cnt n (zl (m+1) r c g):=by
   unfold cnt;rw[<-zZ9,<-List.filter_append];rfl
  have l:(yM m ds c g).length<=5*(g-c).toNat:=by
   have:=vj (hT m) ds c g;rw[<-pD,zX7]at this;exact this
  have z:(m:Int)≠n->cnt n (yM m ds c g)=0:=λq=>by
   unfold cnt;rw[List.length_eq_zero_iff,List.filter_eq_nil_iff];intro h hm;rw[(nF m ds c g h hm).2];simpa using q
  have l2:cnt n (yM m ds c g)<=(yM m ds c g).length:=z57 _ _;rw[e];by_cases q:(m:Int)=n
  ·have:=a (by omega);exact⟨by omega,by omega⟩
  ·have:=z q;exact⟨by omega,λw=>by have:=a (by omega);omega⟩
theorem jd (n:Int)(L:List H3)(p:H3->Bool):cnt n (L.filter p)<=cnt n L:=by
 unfold cnt;rw[yi5];simp only[Bool.and_comm];rw[<-yi5];exact z57 _ _
abbrev iA :Stmt:=top 71
abbrev iC :Stmt:=top 70
theorem lC {rs:List PyData}{d:PyData}:ixN (rs++[d]).length (-1)=some rs.length:=by
 unfold ixN;rw[if_neg (by decide),zZ9,yc0,if_pos (by omega)]
 congr 1
 omega
theorem sA {rs:List PyData}{d:PyData}:atI (rs++[d]) (-1)=some d:=by
 unfold atI;rw[lC];simp
def mM (C:Addr)(cs:Cs):Ph:=λas Q=>∃(told:List (List PyData)) (c g:Int),as=[.dat (xF C cs told),.dat (.tuple [.int c,.int g])]/\(∀ds∈told,Rules ds)/\told.length<=4/\SB c g/\((ym told c g (zl 0 told c g)=true/\Q (.own ((lL told c g).map hD)))\/(ym told c g (zl 0 told c g)=false/\Q (.dat .none)))
def mP (C:Addr)(cs:Cs):Ph:=λas Q=>∃(told:List (List PyData)) (L:List H3),as=[.dat (xF C cs told),.dat (.list (L.map hD))]/\wI told/\(∀ds∈told,ds.length<=6)/\told.length<=4/\W5 L/\L.length<64/\(∀n,cnt n L<=16)/\
 ∀Bs:List (List PyData),Bs.length=told.length->(∀n ds ds',told[n]?=some ds->Bs[n]?=some ds'->yV (n:Nat) L ds ds')->wI Bs->Q (.own (Bs.map (yb C cs)))
section
variable {P:Program}{w:World}{K:PySem.W.Frag}{mg:Str->Option Value}{base:Heap}{cs:Cs}
theorem jh {C b:Addr}(F:FnD K mg "_law_why" iA ["_law_books","_law_stay"])(n:mg "Had"=some (.ref b))(p:XB K b b)(s:Cal P w K mg base "why" 6 (zu9 C cs))(CX:zr4 P w K mg base "why" 6 (bN C cs b)):Cal P w K mg base "_law_why" 7 (mM C cs):=by
 refine zZ ((["_law_books","_law_stay","_law_found"]:List Str)++[("":Str)]) F λ_ _ _ _ _ _ _ _ Q nd hr h=>?_;obtain⟨told,c,g,rfl,l,k,i,hq⟩:=h;have lx:∀o,leX [some (.dat (xF C cs told)),some (.dat (.tuple [.int c,.int g])),some (.dat .none),none] [some (.dat (xF C cs told)),some (.dat (.tuple [.int c,.int g])),some (.dat .none),o]:=λo=>leX.cons (.inr ⟨rfl,λa e=>by cases e;trivial⟩) (leX.cons (.inr ⟨rfl,λa e=>by cases e;trivial⟩) (leX.cons (.inr ⟨rfl,λa e=>by cases e;trivial⟩) (leX.cons (.inl rfl) leX.nil')));refine yj 2 nd (si ?_);rcases hq with⟨f,q⟩|⟨f,q⟩
 ·refine ze6 3 [some (.dat (xF C cs told)),some (.dat (.tuple [.int c,.int g])),some (.dat .none),none] (λ_=>False) rfl rfl rfl (lx _) (by rfl) n (λ_ z=>z.elim) (λpins xe r m=>?_) (λpins a d z=>z.elim);refine xO 2 nd (vW s (hr.mono (by decide)) (by rfl) (zq (zj 0 rfl (zq (zj 1 rfl (zH ⟨told,c,g,rfl,l,k,i,f,_,rfl,zS ?_⟩))))));exact wH 2 rfl q
 ·refine ze6 3 [some (.dat (xF C cs told)),some (.dat (.tuple [.int c,.int g])),some (.dat .none),none] (λd=>d=xD0 b) rfl rfl rfl (lx _) (by rfl) n (λd e=>⟨b,.inr e,p⟩) (λpins xe r m=>?_) (λpins a d e=>?_)
  ·exact xO 2 nd (zj6 (j:=3) m rfl (lx _) CX (hr.mono (by decide)) (by rfl) (zq (zj 0 rfl (zq (zj 1 rfl (zH ⟨told,c,g,rfl,l,k,i,f,rfl⟩))))))
  ·exact yj 2 nd (si (zS (xR (zj 2 rfl q))))
theorem lX {C:Addr}(F:FnD K mg "_law_lifted" iC ["_law_books","_law_rows"])(nb:NbT mg)(a0:Cal P w K mg base "laid" 11 (dw C cs))(CK:ud P w K mg base "Book" 9 [] (uS C cs)):Cal P w K mg base "_law_lifted" 12 (mP C cs):=by
 refine zZ ["_law_books","_law_rows","_law_found","_law_number","_law_rules_here","_law_place","_law_word","_law_day","_law_worth_here","_law_joins"] F λ_ _ A' _ _ _ _ _ Q nd hr h=>?_;obtain⟨told,L,rfl,O,S,tl,X,U,lc,q⟩:=h;and_intros;refine zX (.one 3) (xY (by rfl) nb.range ?_);and_intros;refine⟨by omega,by rw[zX7];omega,?_⟩;refine zK (λi α=>∃(Bs:List (List PyData)) (B G o l s m p:Option A),Bs.length=i/\(∀n ds ds',told[n]?=some ds->Bs[n]?=some ds'->yV (n:Nat) L ds ds')/\wI Bs/\α=[some (.dat (xF C cs told)),some (.dat (.list (L.map hD))),some (.own (Bs.map (yb C cs))),B,G,o,l,s,m,p]) ⟨[],none,none,none,none,none,none,none,rfl,λn ds ds' _ h=>by simp at h,λd h=>by simp at h,rfl⟩ ?_ ?_
 ·rintro i d α hd ⟨Bs,B,G,o,l,s,m,p,rfl,lf,bk,rfl⟩;rw[zZ1,zZ6]at hd;obtain⟨z,hz,rfl⟩:=hd;have hi:=(zX9.mp hz).1;rw[zk]at hi;obtain rfl:z=(Bs.length:Int):=by rw[yo hi]at hz;cases hz;omega
  rw[zX7]at hi;obtain⟨ds,g⟩:∃ds,told[Bs.length]?=some ds:=⟨_,zY0 (by omega)⟩;refine⟨_,rfl,?_⟩;and_intros;refine zX (.many [5,6,7]) (zQ (EvL.d (ki (by rfl) nb.sorted (zj 1 rfl ⟨L,rfl,U,λM pm _=>⟨_,rfl,?_⟩⟩))));refine zK (λj α=>∃(rs:List PyData) (o l s m p:Option A),Lft (Bs.length:Nat) (M.take j) rs/\α=[some (.dat (xF C cs told)),some (.dat (.list (L.map hD))),some (.own (Bs.map (yb C cs))),some (.dat (.int (Bs.length:Nat))),some (.own rs),o,l,s,m,p]) ⟨[],o,l,s,m,p,Lft.nil _,rfl⟩ ?_ ?_
  ·rintro j d α hd ⟨rs,o,l,s,m,p,c,rfl⟩;rw[zZ1,zZ6]at hd;obtain⟨h,R,rfl⟩:=hd;obtain⟨y,w2,J⟩:=X h (pm.mem_iff.mp (z23 R));obtain⟨v,H,I⟩:=eW y;have tk:=take_snoc R;have T:rs.length<=63:=by
    have t:=c.len;have k:cnt (Bs.length:Nat) (M.take j)<=(M.take j).length:=z57 _ _;rw[z46,pm.length_eq]at k;omega
   have ns:=c.ok.nice (by omega);refine⟨_,rfl,yj 8 nd (dP (D:=zd0) (by rfl) (by rfl) (by decide +kernel) (zj 6 rfl ⟨h.2.1,lwD h.2.1,v,rfl,H,I,?_⟩))⟩;refine vc (λα=>∃b:Bool,(b=true->∃f a e,rs=f++[rT h.2.1 a e]/\e+1=h.2.2)/\α=[some (.dat (xF C cs told)),some (.dat (.list (L.map hD))),some (.own (Bs.map (yb C cs))),some (.dat (.int (Bs.length:Nat))),some (.own rs),some (.dat (.int h.1)),some (.dat (.str h.2.1)),some (.dat (.int h.2.2)),some (.dat (lwD h.2.1)),some (.dat (.bool b))]) ?_ ?_
   ·refine yj 9 nd (pU 4 rfl ?_);obtain rfl|⟨f,r,rfl⟩:rs=[]\/∃f r,rs=f++[r]:=by
     rcases List.eq_nil_or_concat rs with h|⟨a,b,h⟩
     ·exact .inl h
     ·exact .inr ⟨a,b,by rw[h,List.concat_eq_append]⟩
    ·and_intros;exact⟨false,by simp,rfl⟩
    ·obtain⟨x,a,e,rfl,_⟩:=c.sh r (z05 _ (zY2.mpr rfl));and_intros;refine eqk ns.shaped rfl ns.nod rfl ?_;rw[show PyData.eqv (PyData.list (f++[rT x a e])) (.list [])=false by rw[jI];simp];and_intros;refine ixk rfl rfl sA ?_;and_intros;refine tu (λe1=>?_) λe1=>?_
     ·and_intros;refine ixk rfl rfl sA ?_;and_intros;exact⟨rfl,zS ⟨_,λk=>⟨f,a,e,by rw[z68 e1],z68 k⟩,rfl⟩⟩
     ·exact⟨rfl,zS ⟨false,by simp,rfl⟩⟩
   rintro α ⟨b,hb,rfl⟩;rw[tk];and_intros;refine tu (λe=>?_) (λe=>?_)
   ·and_intros;refine xm (λN=>?_) (λN=>?_)
    ·obtain⟨f,a,u,rfl,he⟩:=hb N;refine dR 4 rfl (pU 4 rfl ?_);and_intros;refine ixk rfl rfl sA ?_;and_intros;refine⟨by simp[noL,xQ,(zs0 y).2.2.2],?_⟩;and_intros;refine⟨_,_,rfl,lC,?_⟩;and_intros;have V:(f++[rT h.2.1 a u]).set f.length (.tuple [.str h.2.1,.int a,.int h.2.2,lwD h.2.1])=f++[rT h.2.1 a h.2.2]:=by simp[rT]
     exact⟨_,_,_,_,_,_,c.join (z68 e) y he J,by rw[<-V]<;>rfl⟩
    ·and_intros;refine uE e ?_;and_intros;refine⟨by omega,?_⟩;and_intros;exact⟨_,_,_,_,_,_,c.add (z68 e) y w2 J,rfl⟩
   ·and_intros;refine uB e ?_;and_intros;exact⟨_,_,_,_,_,_,c.skip (of_decide_eq_false e),rfl⟩
  ·rintro α ⟨rs,o,l,s,m,p,c,rfl⟩;rw[zX7,z40]at c;have T:rs.length<=16:=by
    have t:=c.len;have k:cnt (Bs.length:Nat) M=cnt (Bs.length:Nat) L:=(pm.filter _).length_eq;have:=lc (Bs.length:Nat);omega
   have d6:=S ds (z23 g);refine pJ 4 rfl ?_;and_intros;refine ixk rfl rfl (vv (j:=Bs.length) (by rw[zZ1,g]<;>rfl)) ?_;and_intros;refine⟨rs,.inl rfl,c.ok.rules,by omega,?_⟩;and_intros;refine⟨ds,rs,rfl,O ds (z23 g),c.ok,by omega,?_⟩;refine⟨by rw[zX7];omega,?_⟩;and_intros;refine⟨Bs++[ds++rs],_,_,_,_,_,_,_,by simp,λn E ds' t k=>?_,λe he=>?_,by rw[z39]<;>rfl⟩
   ·by_cases hn:n<Bs.length
    ·rw[z22 hn]at k;exact lf n E ds' t k
    ·have Z:=(zX9.mp k).1;rw[zZ9,yc0]at Z;obtain rfl:n=Bs.length:=by omega
     rw[g]at t;cases t;rw[List.getElem?_concat_length]at k;cases k;exact c.to.perm pm
   ·rcases z01.mp he with he|he
    ·exact bk e he
    ·rw[zY2.mp he];exact(O ds (z23 g)).app c.ok
 ·rintro α ⟨Bs,B,G,o,l,s,m,p,Y,lf,bk,rfl⟩;rw[zX7,zk,zX7]at Y;and_intros;exact q Bs (by omega) lf bk
end
abbrev ni :Stmt:=top 72
def Told (told:List (List PyData)):Prop:=∀ds∈told,zv ds/\ds.length<=6
theorem jr {L:List H3}(p:H3->Bool):(L.filter λy=>!inH (L.filter p) y).length+(L.filter p).length=L.length:=by
 have e:(L.filter λy=>!inH (L.filter p) y)=L.filter λy=>!p y:=List.filter_congr λy hy=>by
  congr 1
  rw[ya0,pE,z58];exact⟨λz=>z.2,λz=>⟨hy,z⟩⟩
 rw[e];clear e
 induction L with
 |nil=>rfl
 |cons a r b=>by_cases h:p a=true<;>simp[ya9,h]<;>omega
section
variable {P:Program}{w:World}{K:PySem.W.Frag}{mg:Str->Option Value}{base:Heap}{cs:Cs}
abbrev nLa :List Str:=["_law_script","_law_tape_here","_law_days","_law_base","_law_books","_law_k","_law_rules_here","_law_start","_law_turned","_law_many","_law_come","_law_stay","_law_rows","_law_told","_law_had","_law_off","_law_others","_law_lifted_here"]
theorem zM0 :zI nLa ["_law_script"] (zd ni):=.o
theorem zI6 {f fT C:Addr}{fd M:FuncData}(F:Fun K "law" "law" ni f fd)(nb:NbT mg)(GT:yn P w K mg base CX0 1 fT M ["_law_script"] (km K))(mT:mg "_law_tape"=some (.ref fT))(kT:PySem.W.keepIn K (.ref fT)=true)(bT:Binds K M ["_law_script"] [])(CD:Cal P w K mg base "_law_draw" 1 wG)(CR:Cal P w K mg base "_law_rules" 5 nH)
  (CH:Cal P w K mg base "hindrances" 4 (tZ C cs)) (a7:Cal P w K mg base "best" 9 (aG C cs)) (a5:Cal P w K mg base "_law_why" 7 (mM C cs)) (a4:Cal P w K mg base "holds_off" 6 (sg C cs)) (a0:Cal P w K mg base "_law_lifted" 12 (mP C cs)) (CK:ud P w K mg base "Book" 9 [] (uS C cs)):yn P w K mg base CX0 13 f fd ["_law_script"] (mh K):=by
 refine zU3 (k:=11) F zM0 GT mT kT bT rfl rfl (Or.inl rfl) (Or.inl rfl) (λcdv A' outer s H E hr=>?_);have nd:=zM0.nd;and_intros;rename_i v1 a1 c1 v2 a2 c2 v3 a3 c3;refine dQ (λd=>∃b:Int,d=.int b/\0<=b/\b<=999980) rfl (by assumption) (by assumption) ⟨⟨_,rfl,by omega,by omega⟩,⟨_,rfl,by omega,by omega⟩,⟨_,rfl,by omega,by omega⟩,trivial⟩ ?_;rintro _ ⟨b,rfl,b0,b1⟩;obtain⟨o,hdy,d0,d1⟩:∃o,2+v1=o/\2<=o/\o<=5:=⟨_,rfl,by omega,by omega⟩;rw[hdy];and_intros;refine zX (.one 5) (xY (by rfl) nb.range ?_);and_intros;refine⟨by omega,by omega,?_⟩;refine zK (λi α=>∃(told:List (List PyData)) (Y V o7 X:Option A),Told told/\told.length=i/\α=[none,some .tape,some (.dat (.int o)),some (.dat (.int b)),some (.own (told.map (yb C cs))),Y,V,o7,X,none,none,none,none,none,none,none,none,none]) ⟨[],none,none,none,none,λd h=>by simp at h,rfl,rfl⟩ ?_ ?_
 ·rintro i d α hd ⟨told,Y,V,o7,X,N,rfl,rfl⟩;have hi:=(zX9.mp hd).1;rw[zX7,zk]at hi;refine⟨_,rfl,?_⟩;and_intros;refine⟨b,o,rfl,⟨b0,by omega,by omega,by omega⟩,λds ro l1 a6=>?_⟩;and_intros;rename_i u _ _;have m1:=@pZ ds (some u) none;have m2:=@pZ ds none (some u);refine⟨by have B:=@jV ds (some u) none;have G:=@jV ds none (some u);omega,?_⟩;and_intros;rename_i v v0 v6;have Z:=zi9 (L2.cutD ds (some u) none++L2.cutD ds none (some u)) v0;have l:zv (L2.cutD (L2.cutD ds (some u) none++L2.cutD ds none (some u)) none (some v)):=λd hd=>ro d ((z01.mp (pZ hd)).elim m1 m2);have l2:(L2.cutD (L2.cutD ds (some u) none++L2.cutD ds none (some u)) none (some v)).length<=6:=by rw[Z,z46];omega
  generalize L2.cutD (L2.cutD ds (some u) none++L2.cutD ds none (some u)) none (some v)=rs at l l2;refine⟨rs,.inl rfl,l.rules,by omega,?_⟩;refine⟨by rw[zX7];omega,?_⟩;and_intros;refine⟨told++[rs],_,_,_,_,λe he=>?_,by simp,by rw[z39]<;>rfl⟩;rcases z01.mp he with he|he
  ·exact N e he
  ·rw[zY2.mp he];exact⟨l,l2⟩
 ·rintro α ⟨told,Y,V,o7,X,N,lt,rfl⟩;rw[zX7,zk]at lt;have I:wI told:=λds a=>(N ds a).1;have U:∀ds∈told,Rules ds:=λds a=>(I ds a).rules;refine pJ 4 rfl ?_;and_intros;rename_i m m0 m1 k k0 k1;have m2:m<3/\m<o:=by split at m1<;>omega
  obtain⟨c,Z⟩:∃c,b+k=c:=⟨_,rfl⟩;obtain⟨g,hg⟩:∃g,c+(1+m)=g:=⟨_,rfl⟩;rw[Z,hg];have Q:0<=c:=by omega
  have cg:c<g:=by omega
  have g3:g<=c+3:=by omega
  have g1:g<=1000000:=by omega
  have sb:SB c g:=⟨Q,cg,by omega,g1⟩;have sB:vO c g:=⟨Q,cg,by omega,g1⟩;refine⟨told,c,g,rfl,U,by omega,Q,cg,by omega,g1,?_⟩;rw[<-yd];and_intros;have T0:∀n ds ds',told[n]?=some ds->told[n]?=some ds'->yV (n:Nat) [] ds ds':=λn ds ds' B G=>by rw[B]at G;cases G;exact .nil
  have wall:=wb c g told 0;have hl:(zl 0 told c g).length<=45:=by
   have B:=xt c g told 0;rw[<-yd,zX7]at B;have G:told.length*(5*(g-c).toNat)<=3*15:=yf1 (by omega) (by omega);omega
  refine⟨told,c,g,rfl,U,by omega,sb,?_⟩;cases hhd:ym told c g (zl 0 told c g)with
  |false=>
   refine .inr ⟨rfl,?_⟩;and_intros;refine⟨told,c,g,rfl,I,by omega,sB,λS r=>?_⟩;and_intros;rw[md rfl (by omega) (λh hm=>.inl hm) T0 hhd];and_intros;refine⟨told,c,g,zl 0 told c g,rfl,U,by omega,sb,wall,?_⟩;rw[mQ (λ_ h=>h),hhd];and_intros;rfl
  |true=>
   refine .inl ⟨rfl,?_⟩;obtain⟨⟨p,hp⟩,hw,need⟩:=zE0 hhd;rw[z40]at need;have lo:=jr (L:=zl 0 told c g) p;rw[<-hp]at lo;have t:∀x∈lL told c g,x∈zl 0 told c g:=λx j=>by rw[hp]at j;exact(z58.mp j).1
   generalize lL told c g=W at need t hw lo;have wW:Wd W:=λx j=>wall x (t x j);and_intros;refine⟨told,c,g,rfl,I,by omega,sB,λS r=>?_⟩;and_intros;rw[nP rfl (λh hm=>⟨hm,by simp⟩) T0 hhd];and_intros;refine⟨told,c,g,zl 0 told c g,rfl,U,by omega,sb,wall,?_⟩;rw[mQ (λ_ h=>h),hhd];and_intros;refine EvL.d (yN ["_law_row","_law_told"] [none,some 13] (.one 0) (zQ (zj 12 rfl ⟨_,rfl,by rw[zX7];omega,?_⟩)));refine yE (λy=>!inH W y) hD (λy hy=>⟨_,rfl,λ_ _ _ _ _ k=>?_,λ_ _ _ _ _ _ k=>?_⟩) ?_
   ·refine xW (ed hr.units (zj 0 rfl (zj 1 rfl ⟨_,rfl,oF (wall y hy),pW wW,rX y,nh W,rZ y,?_⟩)));rw[cX];exact k
   ·and_intros;exact k
   rw[z37];have R:∀h,h∈(zl 0 told c g).filter (λy=>!inH W y)↔h∈zl 0 told c g/\¬h∈W:=λh=>by rw[z58,z90,Bool.eq_false_iff,ne_eq,pE]
   have cO:∀n,cnt n ((zl 0 told c g).filter (λy=>!inH W y))<=15:=λn=>by
    have B:=jd n (zl 0 told c g) (λy=>!inH W y);have G:=(qx n c g told 0).1;omega
   generalize (zl 0 told c g).filter (λy=>!inH W y)=O at R cO lo;have J:=zc8 (told:=told) (c:=c) (g:=g) Q g1;have D:W5 O:=λh hm=>J h ((R h).mp hm).1;have l6:∀ds∈told,ds.length<=6:=λds a=>(N ds a).2;and_intros;refine⟨told,O,rfl,I,l6,by omega,D,by omega,λn=>by have:=cO n;omega,λBs bl T bk=>?_⟩;and_intros;rw[show decide (((O.map hD).length:Int)+((W.map hD).length:Int)=(((zl 0 told c g).map hD).length:Int))=true from z28 (by simp only[zX7];omega)];and_intros;refine⟨Bs,c,g,rfl,bk,by omega,sB,λS r=>?_⟩;and_intros;rw[nP bl (λh hm=>⟨t h hm,λz=>((R h).mp z).2 hm⟩) T hw];and_intros;refine zD7 rfl (by rfl) nb.all (EvL.d (yN ["_law_row","_law_books","_law_others","_law_stay"] [none,some 4,some 16,some 11] (.one 0) (zQ (zj 13 rfl ⟨_,rfl,by rw[zX7];omega,?_⟩))));refine yu (λ_=>.bool true) (λh hh=>⟨_,rfl,λ_ _ _ _ _ k=>?_⟩) ?_
   ·and_intros;refine⟨by simp;omega,?_⟩;and_intros;refine⟨told,O++[h],by rw[z39]<;>rfl,I,l6,by omega,λx j=>?_,by simp;omega,λn=>?_,λBs bl T bk=>?_⟩
    ·rcases z01.mp j with j|j
     ·exact D x j
     ·rw[zY2.mp j];exact J h (t h hh)
    ·have:=cO n;rw[uo];split<;>omega
    and_intros;refine⟨Bs,c,g,rfl,bk,by omega,sB,λS r=>?_⟩;and_intros;rw[md bl (by omega) (F:=wo h W) (λy hy=>?_) T (need h (t h hh) hh)]
    ·exact k
    by_cases e:y=h
    ·exact .inr (z05 _ (zY2.mpr e))
    ·by_cases q:y∈W
     ·exact .inl (rf.mpr ⟨q,e⟩)
     ·exact .inr (z41 _ ((R y).mpr ⟨hy,q⟩))
   ·refine⟨W.map λ_=>true,by rw[z37,z55]<;>rfl,?_⟩;show A.dat (.bool ((W.map λ_=>true).all id))=_;rw[show(W.map λ_=>true).all id=true by simp]
end
theorem us1 {α:Type}{p:List α->Prop}(h:∀a,p [a])(us:List α)(b:us.length=1):p us:=by
 obtain⟨a,rfl⟩:=List.length_eq_one_iff.mp b;exact h a
theorem us2 {α:Type}{p:List α->Prop}(h:∀a b,p [a,b])(us:List α)(c:us.length=2):p us:=by
 cases us with
 |nil=>cases c
 |cons a us=>exact us1 (p:=λus=>p (a::us)) (h a) us (Nat.succ.inj c)
theorem us3 {α:Type}{p:List α->Prop}(h:∀a b c,p [a,b,c])(us:List α)(d:us.length=3):p us:=by
 cases us with
 |nil=>cases d
 |cons a us=>exact us2 (p:=λus=>p (a::us)) (h a) us (Nat.succ.inj d)
theorem us4 {α:Type}{p:List α->Prop}(h:∀a b c d,p [a,b,c,d])(us:List α)(e:us.length=4):p us:=by
 cases us with
 |nil=>cases e
 |cons a us=>exact us3 (p:=λus=>p (a::us)) (h a) us (Nat.succ.inj e)
def FnF (K:PySem.W.Frag)(f:Addr)(nm a:Str)(st:Stmt)(ps:List Str):Prop:=∃fd,Fun K nm a st f fd/\Binds K fd ps []
section
variable {K:PySem.W.Frag}{h0:Heap}{mg:Str->Option Value}{f:Addr}{nm ql:Str}{st:Stmt}{ps:List Str}{oc kV dc pm cd ct:Value}{od an:Option Addr}{sl:Array (Option Value)}
theorem mkF (l:K.lookup f=some ⟨oc,od,.func (PySem.W.fnOf nm ql (zN st) (zr st) (zd st) .none kV dc pm an cd ct),sl⟩)(c:PySem.W.codeIn K cd ql=true)(k:PySem.W.keepIn K (.ref f)=true)
  (hb:∀(kV doc pm:Value) (an:Option Addr) (cdv ct:Value) (us:List Value),us.length=ps.length->bindArgs (PySem.W.fnOf nm ql (zN st) (zr st) (zd st) .none kV doc pm an cdv ct) ⟨us,[]⟩=pure (ps.zip us):=by intro _ _ _ _ _ _;first|exact K94.us1 λ_=>rfl|exact K94.us2 λ_ _=>rfl|exact K94.us3 λ_ _ _=>rfl|exact K94.us4 λ_ _ _ _=>rfl):FnF K f nm ql st ps:=⟨_,oV l c k,(oV l c k).binds hb⟩
theorem mkG (X:K.In h0)(G:h0.Ns mainGlobals mg)(a:PySem.W.nsIn K mainGlobals nm=some (some (.ref f)))(q:FnF K f nm nm st ps):FnD K mg nm st ps:=by
 obtain⟨_,F,b⟩:=q;exact⟨f,_,F,z35 X G a,b⟩
end
theorem mkR {K:PySem.W.Frag}{C b gt ge a:Addr}(pg:PySem.W.plainGet K C Str.empty=true)(hd:PySem.W.hasDictIn K C=true)(po:PySem.W.plainOver K C=true)(sa:PySem.W.findIn K (.ref C) "__setattr__"=some (some (.builtin "object.__setattr__")))(n1:PySem.W.findIn K (.ref C) "first"=some none)(d:PySem.W.findIn K (.ref C) "last"=some none)(h:PySem.W.findIn K (.ref C) "worth"=some none)(mk:PySem.W.makesIn K C=true)(f1:PySem.W.findIn K (.ref C) "__init__"=some (some (.ref b)))(i1:PySem.W.isFn K (.ref b)=true)(c:PySem.W.keepIn K (.ref C)=true)(f2:PySem.W.findIn K (.ref C) "told"=some (some (.ref gt)))(i2:PySem.W.isFn K (.ref gt)=true)(k2:PySem.W.keepIn K (.ref gt)=true)(f:PySem.W.findIn K (.ref C) "tells"=some (some (.ref ge)))(i3:PySem.W.isFn K (.ref ge)=true)(k3:PySem.W.keepIn K (.ref ge)=true)(f4:PySem.W.findIn K (.ref C) "word"=some (some (.ref a)))(g:PySem.W.isFn K (.ref a)=true)(e:PySem.W.keepIn K (.ref a)=true):tO K C b gt ge a:=⟨⟨pg,hd,po,sa⟩,n1,d,h,⟨mk,f1,i1,c⟩,⟨f2,i2,k2⟩,⟨f,i3,k3⟩,⟨f4,g,e⟩⟩
theorem gS {K:PySem.W.Frag}{dT:Addr}{oc kV doc pm cdv ct:Value}{od an:Option Addr}{n:Nat}{sl:Array (Option Value)}(b:K.lookup dT=some ⟨oc,od,.seq #[.none] n,sl⟩):
  Binds K (PySem.W.fnOf "__init__" "Book.__init__" (zN xj) (zr xj) (zd xj) (.ref dT) kV doc pm an cdv ct) ["self","rules"] [.none]:=λs us hk a=>by
 match us,(show us.length=1 by rw[zZ9]at a;simpa using a)with
 |[u],_=>exact BindsTo.of_defaults (T:=dT) rfl (hk _ _ b) rfl rfl rfl
theorem eU {K:PySem.W.Frag}{dT:Addr}{oc kV doc pm cdv ct:Value}{od an:Option Addr}{n:Nat}{sl:Array (Option Value)}(b:K.lookup dT=some ⟨oc,od,.seq #[.none] n,sl⟩):
  Binds K (PySem.W.fnOf "__init__" "Book.__init__" (zN xj) (zr xj) (zd xj) (.ref dT) kV doc pm an cdv ct) ["self","rules"] []:=λs us hk a=>by
 rw[z51]at a ⊢
 match us,a with
 |[u,v],_=>exact BindsTo.of_defaults (T:=dT) rfl (hk _ _ b) rfl rfl rfl
theorem zm7 {P:Str->Prop}(f:P "price")(b:P "come")(h:P "go")(g:P "least")(d:P "most")(e:P "deal")(c:P "fee"):∀u∈words,P u:=by
 intro u a;simp only[words,zY4,zZ8,z32]at a;rcases a with rfl|rfl|rfl|rfl|rfl|rfl|rfl<;>assumption
theorem all_mk {l:PySem.W.OpenLaw}{w:World}{K:PySem.W.Frag}{h:Heap}{mg:Str->Option Value}{fa cC j4 m2 m n g b1 c2 h1 a9 c1 c6 e1 a c M b f d p CB dT k N O dU l5 q:Addr}(X:K.In h)(G:h.Ns mainGlobals mg)(u6:mg "law"=some (.ref fa))
  {p2 n4 o1 k5 w2 r2 v4:Option Addr} {o6 o9 u5 s7:Array (Option Value)} {o3 n5 o4 p5 n8 m5 k6 k8 k7 k9 h8 v1 x1 r7 y0 y1 o8 s1:Value} {n1 m1 m3 m7 w9 t8 q5 x9 s3 y3 s6 v3 r4 n3:Tok} {o0 n6 o5 m9 m8 o7 n7:Int} {nT nU:Nat}
  (c3:FnD K mg "is_whole" bG ["thing"])
  (E:FnD K mg "is_whole_within" iz ["thing","lowest","highest"])
  (d4:FnD K mg "is_pair" zt6 ["thing"])
  (f1:FnD K mg "is_day" zP9 ["thing"])
  (D:FnD K mg "is_pair_of_days" zw2 ["thing"])
  (a2:FnD K mg "is_stretch" mG ["thing"])
  (d0:FnD K mg "is_coins" zd8 ["thing"])
  (d6:FnD K mg "is_deal" iX ["thing"])
  (c8:FnD K mg "is_worth" zc1 ["word","thing"])
  (d9:FnD K mg "is_rule" iZ ["thing"])
  (k3:FnD K mg "made" zw5 ["word","first","last","worth"])
  (d2:FnD K mg "rule_of" iM ["thing"])
  (b9:FnD K mg "nights_of" iH ["stay"])
  (R:FnD K mg "hindrances_by" zK5 ["number","book","stay"])
  (a6:FnD K mg "hindrances" zv2 ["books","stay"])
  (j5:FnD K mg "lets" zM2 ["number","book","stay","force"])
  (c7:FnD K mg "leads_to" lq ["books","begins","day","force"])
  (Y:FnD K mg "is_held_off" mS ["books","stay","some"])
  (b6:FnD K mg "holds_off" pw ["books","stay","some"])
  (h2:FnD K mg "why" zk8 ["books","stay"])
  (g1:FnD K mg "usual" cV ["word"])
  (a7:FnD K mg "kept_rules" zv8 ["things"])
  (i6:FnD K mg "laid" zs9 ["elder","newer"])
  (r0:PySem.W.nsIn K mainGlobals "cheapest_first"=some (some (.ref j4)))
  (p4:K.lookup j4=some ⟨o3,p2,.func (PySem.W.fnOf "cheapest_first" "cheapest_first" (zN yB) (zr yB) (zd yB) .none n5 o4 p5 n4 (.ref cC) n8),o6⟩)
  (n9:PySem.W.codeIn K (.ref cC) "cheapest_first"=true)
  (o2:PySem.W.keepIn K (.ref j4)=true)
  (f2:FnD K mg "marked" jN ["prices","deal"])
  (U:FnD K mg "night_prices" sNP ["book","nights"])
  (j2:FnD K mg "bill" zw6 ["book","stay"])
  (i9:FnD K mg "bars" mK ["book","stay"])
  (a4:FnD K mg "can_be_had" zL9 ["book","stay"])
  (V:FnD K mg "cost_or_none" zK4 ["book","stay"])
  (c4:FnD K mg "arrivals" zL5 ["books","ways","day"])
  (a0:FnD K mg "least_ways" sLW ["books","stay"])
  (f6:FnD K mg "cut_of" ze3 ["ways","stay"])
  (d1:FnD K mg "paper_of" bf ["ways","stay"])
  (i5:FnD K mg "best" zz4 ["books","stay"])
  (b4:FnD K mg "_law_tape" qS ["_law_script"])
  (b5:FnD K mg "_law_draw" aZ ["_law_tape_here","_law_many"])
  (a3:FnD K mg "_law_coins" iK ["_law_tape_here"])
  (a5:FnD K mg "_law_worth" iy ["_law_tape_here","_law_word"])
  (C:FnD K mg "_law_price_rules" iW ["_law_tape_here","_law_base","_law_days"])
  (B:FnD K mg "_law_other_rules" jQ ["_law_tape_here","_law_base","_law_days"])
  (a1:FnD K mg "_law_rules" ie ["_law_tape_here","_law_base","_law_days"])
  (Z:FnD K mg "_law_lifted" iC ["_law_books","_law_rows"])
  (c5:FnD K mg "_law_why" iA ["_law_books","_law_stay"])
  (t6:PySem.W.nsIn K mainGlobals "law"=some (some (.ref m2)))
  (x4:K.lookup m2=some ⟨m5,o1,.func (PySem.W.fnOf "law" "law" (zN ni) (zr ni) (zd ni) .none k6 k8 k7 k5 h8 k9),o9⟩)
  (w3:PySem.W.codeIn K h8 "law"=true)
  (v8:PySem.W.keepIn K (.ref m2)=true)
  (g5:PySem.W.nsIn K mainGlobals "Price"=some (some (.ref a)))
  (j3:PySem.W.nsIn K mainGlobals "Come"=some (some (.ref c)))
  (p3:PySem.W.nsIn K mainGlobals "Go"=some (some (.ref M)))
  (g0:PySem.W.nsIn K mainGlobals "Least"=some (some (.ref b)))
  (k2:PySem.W.nsIn K mainGlobals "Most"=some (some (.ref f)))
  (i0:PySem.W.nsIn K mainGlobals "Deal"=some (some (.ref d)))
  (l3:PySem.W.nsIn K mainGlobals "Fee"=some (some (.ref p)))
  (A:tO K a m n g b1)
  (S:tO K c m n g c2)
  (f0:tO K M m n g h1)
  (z:tO K b m n g a9)
  (Q:tO K f m n g c1)
  (T:tO K d m n g c6)
  (b2:tO K p m n g e1)
  (k4:FnF K m "__init__" "Rule.__init__" zu2 ["self","first","last","worth"])
  (k1:FnF K n "told" "Rule.told" zu6 ["self"])
  (h7:FnF K g "tells" "Rule.tells" aF ["self","day"])
  (f8:FnF K b1 "word" "Price.word" zr3 ["self"])
  (g2:FnF K c2 "word" "Come.word" zH8 ["self"])
  (l9:FnF K h1 "word" "Go.word" zV9 ["self"])
  (f7:FnF K a9 "word" "Least.word" zg5 ["self"])
  (h5:FnF K c1 "word" "Most.word" zD3 ["self"])
  (g6:FnF K c6 "word" "Deal.word" zI0 ["self"])
  (i4:FnF K e1 "word" "Fee.word" zL0 ["self"])
  (t1:PySem.W.nsIn K mainGlobals "Book"=some (some (.ref CB)))
  (e9:PySem.W.findIn K (.ref CB) "__init__"=some (some (.ref k)))
  (f4:PySem.W.isFn K (.ref k)=true)
  (g9:K.lookup k=some ⟨v1,w2,.func (PySem.W.fnOf "__init__" "Book.__init__" (zN xj) (zr xj) (zd xj) (.ref dT) x1 r7 y0 r2 o8 y1),u5⟩)
  (h4:PySem.W.codeIn K o8 "Book.__init__"=true)
  (h3:PySem.W.keepIn K (.ref k)=true)
  (lT:K.lookup dT=some ⟨s1,v4,.seq #[.none] nT,s7⟩)
  (d7:PySem.W.findIn K (.ref CB) "rules"=some (some (.ref N)))
  (d8:PySem.W.isFn K (.ref N)=true)
  (e3:FnF K N "rules" "Book.rules" uA ["self"])
  (d3:PySem.W.findIn K (.ref CB) "tells_of"=some (some (.ref O)))
  (d5:PySem.W.isFn K (.ref O)=true)
  (e6:FnF K O "tells_of" "Book.tells_of" iw ["self","word","day"])
  (u8:PySem.W.plainGet K CB Str.empty=true)
  (y4:PySem.W.hasDictIn K CB=true)
  (x7:PySem.W.plainOver K CB=true)
  (y2:PySem.W.findIn K (.ref CB) "__setattr__"=some (some (.builtin "object.__setattr__")))
  (v9:PySem.W.makesIn K CB=true)
  (r3:PySem.W.keepIn K (.ref CB)=true)
  (l8:PySem.W.findIn K (.ref CB) "kept"=some none)
  (z1:PySem.W.nsIn K mainGlobals "abs"=some none)
  (z2:PySem.W.nsIn K mainGlobals "list"=some none)
  (z3:PySem.W.nsIn K mainGlobals "len"=some none)
  (z4:PySem.W.nsIn K mainGlobals "range"=some none)
  (z5:PySem.W.nsIn K mainGlobals "min"=some none)
  (z6:PySem.W.nsIn K mainGlobals "max"=some none)
  (z7:PySem.W.nsIn K mainGlobals "sorted"=some none)
  (z8:PySem.W.nsIn K mainGlobals "isinstance"=some none)
  (z9:PySem.W.nsIn K mainGlobals "int"=some none)
  (x8:PySem.W.nsIn K mainGlobals "bool"=some none)
  (p8:PySem.W.nsIn K mainGlobals "str"=some none)
  (t0:PySem.W.nsIn K mainGlobals "tuple"=some none)
  (q3:PySem.W.nsIn K mainGlobals "all"=some none)
  (x3:PySem.W.nsIn K mainGlobals "any"=some none)
  (p9:PySem.W.nsIn K mainGlobals "repr"=some none)
  (u4:PySem.W.nsIn K mainGlobals "zip"=some none)
  (w6:PySem.W.nsIn K mainGlobals "enumerate"=some none)
  (v6:PySem.W.nsIn K mainGlobals "reversed"=some none)
  (q4:PySem.W.nsIn K mainGlobals "sum"=some none)
  (w8:PySem.W.nsIn K mainGlobals "dict"=some none)
  (s0:PySem.W.nsIn K mainGlobals "LAST_DAY"=some (some (.int 1000000 n1)))
  (m6:PySem.W.nsIn K mainGlobals "MOST_NIGHTS"=some (some (.int 14 m1)))
  (s4:PySem.W.nsIn K mainGlobals "MOST_COINS"=some (some (.int 1000000000000 m3)))
  (t5:PySem.W.nsIn K mainGlobals "MOST_RULES"=some (some (.int 24 m7)))
  (aU:PySem.W.nsIn K mainGlobals "USUAL"=some (some (.ref dU)))
  (lU:K.lookup dU=some ⟨.type "dict",none,.dict #[⟨o0,.str "price" w9,.none⟩,⟨n6,.str "come" t8,.bool true⟩,⟨o5,.str "go" q5,.bool true⟩,⟨m9,.str "least" x9,.int 1 v3⟩,⟨m8,.str "most" s3,.int 14 r4⟩,⟨o7,.str "deal" y3,.none⟩,⟨n7,.str "fee" s6,.int 0 n3⟩] nU,#[]⟩)
  (q0:o0=hashStr w "price")
  (r5:n6=hashStr w "come")
  (s2:o5=hashStr w "go")
  (q2:m9=hashStr w "least")
  (u3:m8=hashStr w "most")
  (q1:o7=hashStr w "deal")
  (w1:n7=hashStr w "fee")
  (hhd:PySem.W.codeHdIn K cC yi=true)
  (r6:PySem.W.nsIn K mainGlobals "StayError"=some (some (.ref l5)))
  (i8:PySem.W.nsIn K mainGlobals "Had"=some (some (.ref q)))
  (i1:kY K q l5 none=true)
  (j8:PySem.W.keepIn K (.ref q)=true)
  (c9:zc4 K q q=true):
  ∃fd:FuncData,(∀(s:Shared) (v:Value),BindsTo s fd ⟨[v],[]⟩ [("_law_script",v)])/\∀base:Heap,K.In base->base.Ns mainGlobals mg->base.BuiltinsAt mg yi->yn l.prog w K mg base CX0 13 fa fd ["_law_script"] (mh K):=by
 have e:=u6.symm.trans (z35 X G t6);cases e;have nb:NbT mg:=⟨z09 X G z1,z09 X G z2,z09 X G z3,z09 X G z4,z09 X G z5,z09 X G z6,z09 X G z7,z09 X G z8,z09 X G z9,z09 X G x8,z09 X G p8,z09 X G t0,z09 X G q3,z09 X G x3,z09 X G p9,z09 X G u4,z09 X G w6,z09 X G v6,z09 X G q4⟩;have i3:mg "dict"=none:=z09 X G w8;have F:mg "cheapest_first"=some (.ref j4):=z35 X G r0;have I:=oV (st:=yB) p4 n9 o2;have H:=I.binds (ps:=["prices","places"]) λ_ _ _ _ _ _=>us2 λ_ _=>rfl;obtain⟨_,_,J,b7,c0⟩:=b4;obtain⟨_,_,L,b3,b8⟩:=b5;have g4:=oV (st:=ni) x4 w3 v8;have t4:=g4.binds (ps:=["_law_script"]) λ_ _ _ _ _ _=>us1 λ_=>rfl;obtain⟨_,y,x⟩:=k4;obtain⟨_,r,t⟩:=k1;obtain⟨_,i,j⟩:=h7;obtain⟨_,e7,e5⟩:=f8;obtain⟨_,f9,g7⟩:=g2;obtain⟨_,l4,l6⟩:=l9;obtain⟨_,e4,e8⟩:=f7;obtain⟨_,g3,g8⟩:=h5;obtain⟨_,h0,h6⟩:=g6;obtain⟨_,j0,j9⟩:=i4;obtain⟨_,a8,f3⟩:=e3;obtain⟨_,b0,f5⟩:=e6;have TT:zD2 mg:=⟨nb.abs,nb.list,nb.len⟩;refine⟨PySem.W.fnOf "law" "law" (zN ni) (zr ni) (zd ni) .none k6 k8 k7 k5 h8 k9,λs v=>.of_eq rfl,λbase KX _ hbi=>?_⟩;have k0:=yR (P:=l.prog) (w:=w) (base:=base) A (z35 X G g5) y x;have l7:=yR (P:=l.prog) (w:=w) (base:=base) S (z35 X G j3) y x;have x2:=yR (P:=l.prog) (w:=w) (base:=base) f0 (z35 X G p3) y x;have i7:=yR (P:=l.prog) (w:=w) (base:=base) z (z35 X G g0) y x;have l2:=yR (P:=l.prog) (w:=w) (base:=base) Q (z35 X G k2) y x;have m0:=yR (P:=l.prog) (w:=w) (base:=base) T (z35 X G i0) y x;have p0:=yR (P:=l.prog) (w:=w) (base:=base) b2 (z35 X G l3) y x;have v5:=zn8 (P:=l.prog) (w:=w) (base:=base) c3 nb;have j1:=kO E v5;have p1:=ba (P:=l.prog) (w:=w) (base:=base) d4 nb;have p7:=eV f1 ⟨n1,z35 X G s0⟩ j1;have r1:=nj a2 (di D p1 p7);have r8:=mq d0 ⟨m3,z35 X G s4⟩ j1;have v0:=kI d6 ⟨m1,z35 X G m6⟩ p1 j1;have w5:=kQ d9 nb r1 (mj c8 nb ⟨m1,z35 X G m6⟩ j1 r8 v0);have q6:=kJ d2 w5 (dO (cs:=⟨a,c,M,b,f,d,p⟩) k3 k0 l7 x2 i7 l2 m0 p0);have p6:=zd4 a7 nb ⟨m7,z35 X G t5⟩ q6;have cB:Cls K CB:=⟨u8,y4,x7,y2⟩;have n2:=dM (zj7 (st:=xj) g9 h4 h3) cB l8 p6;have e2:mg "Book"=some (.ref CB):=z35 X G t1;have m4:Mk K CB k:=⟨v9,e9,f4,r3⟩;have l0:ud l.prog w K mg base "Book" 9 [] (uS CB ⟨a,c,M,b,f,d,p⟩):=⟨CB,k,_,_,_,e2,m4,eU lT,.nil,n2⟩;have y5:ud l.prog w K mg base "Book" 9 [.non] (uS CB ⟨a,c,M,b,f,d,p⟩):=⟨CB,k,_,_,_,e2,m4,gS lT,.cons rfl .nil,n2⟩;have OW:∀u∈words,xC l.prog w K mg base ((⟨a,c,M,b,f,d,p⟩:Cs).of u) "word" 1 (oW ((⟨a,c,M,b,f,d,p⟩:Cs).of u) u):=zm7 (yU A e7 e5 .o rfl) (yU S f9 g7 .o rfl) (yU f0 l4 l6 .o rfl) (yU z e4 e8 .o rfl) (yU Q g3 g8 .o rfl) (yU T h0 h6 .o rfl) (yU b2 j0 j9 .o rfl);have OT:∀u∈words,xC l.prog w K mg base ((⟨a,c,M,b,f,d,p⟩:Cs).of u) "told" 2 (jG ((⟨a,c,M,b,f,d,p⟩:Cs).of u) u):=zm7 (yP A r t (OW _ (by simp[words]))) (yP S r t (OW _ (by simp[words]))) (yP f0 r t (OW _ (by simp[words]))) (yP z r t (OW _ (by simp[words]))) (yP Q r t (OW _ (by simp[words]))) (yP T r t (OW _ (by simp[words]))) (yP b2 r t (OW _ (by simp[words])));have DU:iu K w dU tbU:=⟨_,nU,lU,.cons ⟨q0,⟨_,rfl⟩,rfl⟩ (.cons ⟨r5,⟨_,rfl⟩,rfl⟩ (.cons ⟨s2,⟨_,rfl⟩,rfl⟩ (.cons ⟨q2,⟨_,rfl⟩,⟨_,rfl⟩⟩ (.cons ⟨u3,⟨_,rfl⟩,⟨_,rfl⟩⟩ (.cons ⟨q1,⟨_,rfl⟩,rfl⟩ (.cons ⟨w1,⟨_,rfl⟩,⟨_,rfl⟩⟩ (.nil))))))),by decide +kernel⟩;have CU:=fY (P:=l.prog) (base:=base) g1 (z35 X G aU) DU;have q8:∀u∈words,xC l.prog w K mg base ((⟨a,c,M,b,f,d,p⟩:Cs).of u) "tells" 1 (sC ((⟨a,c,M,b,f,d,p⟩:Cs).of u)):=zm7 (yq A i j) (yq S i j) (yq f0 i j) (yq z i j) (yq Q i j) (yq T i j) (yq b2 i j);have OC:∀u∈words,Cls K ((⟨a,c,M,b,f,d,p⟩:Cs).of u)/\yw K ((⟨a,c,M,b,f,d,p⟩:Cs).of u) "worth":=zm7 (⟨A.cl,A.nw⟩) (⟨S.cl,S.nw⟩) (⟨f0.cl,f0.nw⟩) (⟨z.cl,z.nw⟩) (⟨Q.cl,Q.nw⟩) (⟨T.cl,T.nw⟩) (⟨b2.cl,b2.nw⟩);have h9:=lV cB l8 ⟨d3,d5,b0.kp⟩ b0 f5 nb CU OW q8 OC;have MR:=js cB l8 ⟨d7,d8,a8.kp⟩ a8 f3 OT;have j6:mg "StayError"=some (.ref l5):=z35 X G r6;have e0:mg "Had"=some (.ref q):=z35 X G i8;have j7:=XC.of i1;have CD:Cal l.prog w K mg base "_law_draw" 1 wG:=dS b3 L.kp b8 (zo2 L TT);have n0:=eS a3 CD;have CW:=gk a5 CD n0;have t2:=kL C nb CD n0;have CO:=jA B nb CD CW;have x6:=jq a1 CD t2 CO;have CN:=jm (P:=l.prog) (w:=w) (base:=base) b9 nb;have CC:Cal l.prog w K mg base "cheapest_first" 3 oO:=fM p4 n9 o2 F H nb hhd KX hbi;have v2:Cal l.prog w K mg base "marked" 4 rM:=kD f2 nb CC;have x5:=zE9 U h9;have t9:=bL j2 nb h9 CN x5 v2;have s9:=zd2 i9 CN h9;have w7:=zk6 a4 s9;have q7:=zm9 V w7 t9;have u9:=zh2 c4 nb q7;have t3:=zE2 a0 nb u9;have u2:=zh8 (P:=l.prog) (w:=w) (base:=base) f6 nb;have v7:=gK (P:=l.prog) (w:=w) (base:=base) d1 nb;have u1:=za7 i5 nb t3 u2 v7;have s5:=zd3 i6 l0 MR;have q9:=zr6 R nb CN h9;have i2:=dq a6 nb q9;have u7:=zk7 j5 nb CN h9;have w0:=mC c7 nb u7;have l1:=mB Y nb i3 w0;have w4:=oX b6 nb i2 l1;have t7:=zl3 h2 nb i2 l1;have s8:zC7 K mg "Had" q:=⟨e0,j8,⟨_,j7.ok⟩⟩;have u0:=dC h2 nb i2 l1 s8;have x0:=jh c5 e0 (XB.of c9) t7 u0;have r9:=lX Z nb s5 l0;exact zI6 g4 nb (zp8 J TT) b7 J.kp c0 CD x6 i2 u1 x0 w4 r9 l0
theorem walk {l:PySem.W.OpenLaw}{q:Program}{loose:List Str}{r:(Str->Option Value)->Heap->Prop}{i:World->Heap->Prop}{d:DefRec}{K:Params->PySem.W.Frag}{c:Addr}(hn:l.most=some 63)(hdf:d.params.defaults=[])
  (t:∀(w:World) (h:Heap),i w h->(K w.params).In h) (g:∀(w:World) (h:Heap),i w h->h.get? yi=some (PySem.W.tabObj #[]))
  (e:∀w:World,(K w.params).lookup yi=none) (b:∀w:World,∃o vs,(K w.params).lookup c=some o/\o.cls=.type "code"/\o.data=.fields vs/\vs[11]?=some (.ref yi))
  (F:∀(w:World) (mg:Str->Option Value) (j:Addr) (h:Heap),(K w.params).In h->h.Ns mainGlobals mg->mg d.name=some (.ref j)->
   ∃fd:FuncData,(∀(s:Shared) (u:Value),BindsTo s fd ⟨[u],[]⟩ [("_law_script",u)])/\∀base:Heap,(K w.params).In base->base.Ns mainGlobals mg->base.BuiltinsAt mg yi->yn l.prog w (K w.params) mg base CX0 13 j fd ["_law_script"] (mh (K w.params))):
  PySem.W.WalkO q loose r i l.row.toRowW d [] (λf vs=>PySem.call f vs):=
 L2.cR (n:=63) (k:=13) (x:="_law_script") (CX:=λ_=>CX0) (sp:=λw=>mh (K w.params)) hn (by decide) hdf ⟨rfl,by decide,by decide,rfl⟩ t g e b F (λ_ H a ns v _ hT p=>⟨a,ns,rfl,p,v,⟨#[],hT,trivial,λpos cv m=>by cases m⟩,λ_=>rfl⟩) λ_ _ _ _ _ z=>z
end K94
namespace PySem.W.Fast
def tw7357458456003526871:=Nat
def tw483472193179713260:=Nat
def tw2399559751666642990:=Nat
def tw17472345029876864463:=Nat
def tw12827658862520892939:=Nat
def tw16649779334374233010:=Nat
def tw1523498896067003465:=Nat
def tw1134019304256638086:=Nat
def tw12604831525620226873:=Nat
def tw2784067314218286269:=Nat
def tw7109174757473718600:=Nat
def tw4664398496211902060:=Nat
def tw12823541008415453371:=Nat
def tw14697404324211389120:=Nat
def tw13611746435478315230:=Nat
def tw6379013995090081669:=Nat
def tw9077906273110801302:=Nat
def tw8837912287901634960:=Nat
def tw5951249829963099275:=Nat
def tw14832206492953094229:=Nat
def tw857869717341094556:=Nat
def tw268896954694965230:=Nat
def tw13778531877165998588:=Nat
def tw17489821971876552683:=Nat
def tw12111926468743059735:=Nat
def tw17613005544676314067:=Nat
def tw7296009888783535253:=Nat
def tw14476311697052030790:=Nat
def tw15545333545317443998:=Nat
def tw301605200602310733:=Nat
def tw272449600647906675:=Nat
def tw8615442555169850894:=Nat
def tw12289189833331765518:=Nat
def tw11298574016746327051:=Nat
def tw13586793503469426866:=Nat
def tw17197572887178445027:=Nat
def tw2127205004815590919:=Nat
def tw10170273105970770387:=Nat
def tw12830076466916303381:=Nat
def tw17233579826788907006:=Nat
def tw18311229559906013514:=Nat
def tw6908715424570721887:=Nat
def tw4628508003839178216:=Nat
def tw14919649388818272674:=Nat
def tw10719332000355545130:=Nat
def tw4135414152870921072:=Nat
def tw17767661739984445572:=Nat
def tw4752687394105785821:=Nat
def tw10517033562282016441:=Nat
def tw10512821953362229290:=Nat
def tw4828819910407674651:=Nat
def tw2397544127260904186:=Nat
def tw1185405545336638558:=Nat
def tw10934135308571735755:=Nat
def tw1737710951914416350:=Nat
def tw14262329552370918871:=Nat
def tw10935154429532391167:=Nat
def tw11981212607242453645:=Nat
def tw3933602451653840828:=Nat
def tw5112429456972147172:=Nat
def tw15785137488453776563:=Nat
def tw14420693475080736027:=Nat
def tw3154257297398662528:=Nat
def tw36603265152428246:=Nat
def tw11820611132181025925:=Nat
def tw13153962715807852410:=Nat
def tw15788203274598793031:=Nat
def tw1823974968281612346:=Nat
def tw8515672571624161:=Nat
def tw10068332549030025507:=Nat
def tw3166117359001141063:=Nat
def tw4980193832452830512:=Nat
def tw5054126567116611900:=Nat
def tw4478207505321269868:=Nat
def tw17598568399421082199:=Nat
def tw83486907793494431:=Nat
def tw790078164336039894:=Nat
def tw8684768644588052457:=Nat
def tw18050426284354374068:=Nat
def tw14187835132039529310:=Nat
def tw11177583139124778210:=Nat
def tw8634070960717666086:=Nat
def tw13229833887151280077:=Nat
def tw11010638731003699351:=Nat
def tw9832498700157992638:=Nat
def tw15742957845222398765:=Nat
def tw4252976060044988990:=Nat
def tw14993327946102431615:=Nat
def tw17206157124042391113:=Nat
def tw3650317218961085788:=Nat
def tw17460383682026876957:=Nat
def tw14226294422592079824:=Nat
def tw17035241981104066805:=Nat
def tw11547683784309106208:=Nat
def tw15401289484140074635:=Nat
def tw9907485334320596183:=Nat
def tw16653970551388872065:=Nat
def tw17842356243859367247:=Nat
def tw6228297063008466872:=Nat
def tw11537576712905890498:=Nat
def tw3631576077144102012:=Nat
def tw8524743583627371734:=Nat
def tw17671082543433572876:=Nat
def tw7548599743768412840:=Nat
def tw5978286259907687232:=Nat
def tw13757391930734170242:=Nat
def tw8625362954194255276:=Nat
def tw8316059990880712764:=Nat
def tw11886028699728033683:=Nat
def tw12566132852960087910:=Nat
def tw6419102125726376412:=Nat
def tw1184656558955002178:=Nat
def tw13769596229049109261:=Nat
def tw3018111155125527093:=Nat
def tw6316466586687197792:=Nat
def tw4521890114369790016:=Nat
def tw8020525349319564930:=Nat
def tw2164932614916584974:=Nat
def tw14362909771652490445:=Nat
def tw2596240382618529979:=Nat
def tw8154133159270787844:=Nat
def tw17017588096331346009:=Nat
def tw14134423300158815509:=Nat
def tw9545029879331848684:=Nat
def tw343799972401067499:=Nat
def tw2774777580252003205:=Nat
def tw6461614185458338714:=Nat
def tw14148718788478911822:=Nat
def tw1976427167000049721:=Nat
def tw3577564102384329353:=Nat
def tw13747087338863698754:=Nat
def tw4203228131855741411:=Nat
def tw6479505943949590465:=Nat
def tw6816638649470838902:=Nat
def tw13879590369630079538:=Nat
def tw13020094763066600391:=Nat
def tw3357234226357311666:=Nat
def tw3325949342101634981:=Nat
def tw2996264183500959634:=Nat
def tw1885045622465903535:=Nat
def tw12058202661908380141:=Nat
def tw14734077985007882537:=Nat
def tw13157050533719250079:=Nat
def tw829233178159826972:=Nat
def tw6972165269986352501:=Nat
def tw6879169950140396067:=Nat
def tw10903631967117922724:=Nat
def tw3479632624296831657:=Nat
def tw13277719636387697425:=Nat
def tw7445014786513148472:=Nat
def tw13640071234932936567:=Nat
def tw1089489058458151606:=Nat
def tw15116855473732352152:=Nat
def tw5309008419050964546:=Nat
def tw9246162179151686126:=Nat
def tw4584495766423265953:=Nat
def tw9717570080271416441:=Nat
def tw15269231028149126404:=Nat
def tw3956021154435286805:=Nat
def tw14799613113639192340:=Nat
def tw17719310059228072561:=Nat
def tw13679740309712114157:=Nat
def tw810784075206363890:=Nat
def tw6224968042223306237:=Nat
def tw2833776552183357121:=Nat
def tw7238167919285587680:=Nat
def tw3895121067543172320:=Nat
def tw7195857273170497535:=Nat
def tw1259930754107191774:=Nat
def tw672740133270522588:=Nat
def tw10080910021825220044:=Nat
def tw12555934404380601282:=Nat
def tw14027440951443583038:=Nat
def tw17028813346330644595:=Nat
def tw15613964638594393769:=Nat
def tw3078672368114007390:=Nat
def tw11473290243286169562:=Nat
def tw6980742692408800672:=Nat
def tw14703589493290893857:=Nat
def tw8039249365141914761:=Nat
def tw3280741477135012499:=Nat
def tw10568226450745215056:=Nat
def tw18233867025111000193:=Nat
def tw11749901731589346735:=Nat
def tw18051516866580900982:=Nat
def tw13586004727847108216:=Nat
def tw7416997937458899963:=Nat
def tw12798895747394163646:=Nat
def tw16699375533248684268:=Nat
def tw258920350151387491:=Nat
def tw18383189146075644350:=Nat
def tw10803264695121423028:=Nat
def tw14588432057907854161:=Nat
def tw17067672928481337316:=Nat
def tw4177868911474690862:=Nat
def tw5915014933805236215:=Nat
def tw4515811908709059818:=Nat
def tw4233030955467950196:=Nat
def tw16608064984788717559:=Nat
def tw11615418990660851285:=Nat
def tw18101302903363685826:=Nat
def tw8495244597256803201:=Nat
def tw7469631630877735755:=Nat
def tw9978980636915972669:=Nat
def tw99722612360891515:=Nat
def tw3881266710534945687:=Nat
def tw4960579397799150917:=Nat
def tw16940840342290023245:=Nat
def tw14411407843123163684:=Nat
def tw16394322747197579132:=Nat
def tw2094272882851173052:=Nat
def tw10452662002460019862:=Nat
def tw7296858841683382389:=Nat
def tw15793961245365349328:=Nat
def tw10098420690367681001:=Nat
def tw13622541237152554278:=Nat
def tw9658265333338373236:=Nat
def tw12445644401086091261:=Nat
def tw7849373106237979070:=Nat
def tw13762569549190527877:=Nat
def tw6774817800443502633:=Nat
def tw13641536417091227247:=Nat
def tw4027047642178381385:=Nat
def tw7540090727470264042:=Nat
def tw26022149124898851:=Nat
def tw16977887128165180367:=Nat
def tw8301756417619022817:=Nat
def tw5812381907661183790:=Nat
def tw14786110455782582:=Nat
def tw14351344386674051099:=Nat
def tw5510793510022166427:=Nat
def tw15922394381335918776:=Nat
def tw12067475472893580061:=Nat
def tw18174557719203357077:=Nat
def tw530580787600891870:=Nat
def tw672659108509812853:=Nat
def tw6625445087057471089:=Nat
def tw3120016033448252108:=Nat
def tw9997701807943804000:=Nat
def tw810821867970391314:=Nat
def tw8065611971592118528:=Nat
def tw2332340541139100556:=Nat
def tw244350615876481062:=Nat
def tw1051226844505814346:=Nat
def tw5131020346307791122:=Nat
def tw12329513996123489024:=Nat
def tw9220279897520965644:=Nat
def tw17842625783286822752:=Nat
def tw7027032678147489698:=Nat
def tw13137733246015873700:=Nat
def tw11071882560707879856:=Nat
def tw13574874135613887123:=Nat
def tw7374424272046609588:=Nat
def tw2220456013124616323:=Nat
def tw11038438717583133878:=Nat
end PySem.W.Fast
open PySem PySem.W PyProof.Rows
set_option maxRecDepth 100000 in
theorem PySem.Challenge.cw_stayprice_k94_whole_lifted_by_rules_holds : PySem.Challenge.rw_stayprice_k94_whole_lifted_by_rules.Holds := by
 w_on;o_law;k_head;(case hw=>w_witness2)
 k_fill
 refine K94.walk (l:=PySem.Challenge.rw_stayprice_k94_whole_lifted_by_rules) (c:=(454:Nat)) rfl rfl (λw h Y=>PySem.W.km_in_of Y) (λw h Y=>PySem.W.km_tabs_of Y _ (zY2.mpr rfl)) ?hno ?htab ?hF
 case hno=>intro w;kernel_rfl
 case htab=>intro w;exact⟨_,_,by k_is,rfl,rfl,rfl⟩
 case hF=>
  intro w mg d h a G b
  refine' K94.all_mk a G b (K94.mkG a G ?_ (K94.mkF ?_ ?_ ?_)) (K94.mkG a G ?_ (K94.mkF ?_ ?_ ?_)) (K94.mkG a G ?_ (K94.mkF ?_ ?_ ?_)) (K94.mkG a G ?_ (K94.mkF ?_ ?_ ?_)) (K94.mkG a G ?_ (K94.mkF ?_ ?_ ?_)) (K94.mkG a G ?_ (K94.mkF ?_ ?_ ?_)) (K94.mkG a G ?_ (K94.mkF ?_ ?_ ?_)) (K94.mkG a G ?_ (K94.mkF ?_ ?_ ?_)) (K94.mkG a G ?_ (K94.mkF ?_ ?_ ?_)) (K94.mkG a G ?_ (K94.mkF ?_ ?_ ?_)) (K94.mkG a G ?_ (K94.mkF ?_ ?_ ?_)) (K94.mkG a G ?_ (K94.mkF ?_ ?_ ?_)) (K94.mkG a G ?_ (K94.mkF ?_ ?_ ?_)) (K94.mkG a G ?_ (K94.mkF ?_ ?_ ?_)) (K94.mkG a G ?_ (K94.mkF ?_ ?_ ?_)) (K94.mkG a G ?_ (K94.mkF ?_ ?_ ?_)) (K94.mkG a G ?_ (K94.mkF ?_ ?_ ?_)) (K94.mkG a G ?_ (K94.mkF ?_ ?_ ?_)) (K94.mkG a G ?_ (K94.mkF ?_ ?_ ?_)) (K94.mkG a G ?_ (K94.mkF ?_ ?_ ?_)) (K94.mkG a G ?_ (K94.mkF ?_ ?_ ?_)) (K94.mkG a G ?_ (K94.mkF ?_ ?_ ?_)) (K94.mkG a G ?_ (K94.mkF ?_ ?_ ?_)) ?_ ?_ ?_ ?_ (K94.mkG a G ?_ (K94.mkF ?_ ?_ ?_)) (K94.mkG a G ?_ (K94.mkF ?_ ?_ ?_)) (K94.mkG a G ?_ (K94.mkF ?_ ?_ ?_)) (K94.mkG a G ?_ (K94.mkF ?_ ?_ ?_)) (K94.mkG a G ?_ (K94.mkF ?_ ?_ ?_)) (K94.mkG a G ?_ (K94.mkF ?_ ?_ ?_)) (K94.mkG a G ?_ (K94.mkF ?_ ?_ ?_)) (K94.mkG a G ?_ (K94.mkF ?_ ?_ ?_)) (K94.mkG a G ?_ (K94.mkF ?_ ?_ ?_)) (K94.mkG a G ?_ (K94.mkF ?_ ?_ ?_)) (K94.mkG a G ?_ (K94.mkF ?_ ?_ ?_)) (K94.mkG a G ?_ (K94.mkF ?_ ?_ ?_)) (K94.mkG a G ?_ (K94.mkF ?_ ?_ ?_)) (K94.mkG a G ?_ (K94.mkF ?_ ?_ ?_)) (K94.mkG a G ?_ (K94.mkF ?_ ?_ ?_)) (K94.mkG a G ?_ (K94.mkF ?_ ?_ ?_)) (K94.mkG a G ?_ (K94.mkF ?_ ?_ ?_)) (K94.mkG a G ?_ (K94.mkF ?_ ?_ ?_)) (K94.mkG a G ?_ (K94.mkF ?_ ?_ ?_)) (K94.mkG a G ?_ (K94.mkF ?_ ?_ ?_)) ?_ ?_ ?_ ?_ ?_ ?_ ?_ ?_ ?_ ?_ ?_ (K94.mkR ?_ ?_ ?_ ?_ ?_ ?_ ?_ ?_ ?_ ?_ ?_ ?_ ?_ ?_ ?_ ?_ ?_ ?_ ?_ ?_) (K94.mkR ?_ ?_ ?_ ?_ ?_ ?_ ?_ ?_ ?_ ?_ ?_ ?_ ?_ ?_ ?_ ?_ ?_ ?_ ?_ ?_) (K94.mkR ?_ ?_ ?_ ?_ ?_ ?_ ?_ ?_ ?_ ?_ ?_ ?_ ?_ ?_ ?_ ?_ ?_ ?_ ?_ ?_) (K94.mkR ?_ ?_ ?_ ?_ ?_ ?_ ?_ ?_ ?_ ?_ ?_ ?_ ?_ ?_ ?_ ?_ ?_ ?_ ?_ ?_) (K94.mkR ?_ ?_ ?_ ?_ ?_ ?_ ?_ ?_ ?_ ?_ ?_ ?_ ?_ ?_ ?_ ?_ ?_ ?_ ?_ ?_) (K94.mkR ?_ ?_ ?_ ?_ ?_ ?_ ?_ ?_ ?_ ?_ ?_ ?_ ?_ ?_ ?_ ?_ ?_ ?_ ?_ ?_) (K94.mkR ?_ ?_ ?_ ?_ ?_ ?_ ?_ ?_ ?_ ?_ ?_ ?_ ?_ ?_ ?_ ?_ ?_ ?_ ?_ ?_) (K94.mkF ?_ ?_ ?_) (K94.mkF ?_ ?_ ?_) (K94.mkF ?_ ?_ ?_) (K94.mkF ?_ ?_ ?_) (K94.mkF ?_ ?_ ?_) (K94.mkF ?_ ?_ ?_) (K94.mkF ?_ ?_ ?_) (K94.mkF ?_ ?_ ?_) (K94.mkF ?_ ?_ ?_) (K94.mkF ?_ ?_ ?_) ?_ ?_ ?_ ?_ ?_ ?_ ?_ ?_ ?_ (K94.mkF ?_ ?_ ?_) ?_ ?_ (K94.mkF ?_ ?_ ?_) ?_ ?_ ?_ ?_ ?_ ?_ ?_ ?_ ?_ ?_ ?_ ?_ ?_ ?_ ?_ ?_ ?_ ?_ ?_ ?_ ?_ ?_ ?_ ?_ ?_ ?_ ?_ ?_ ?_ ?_ ?_ ?_ ?_ ?_ ?_ ?_ ?_ ?_ ?_ ?_ ?_ ?_ ?_ ?_ ?_ ?_
  all_goals try (show _=_;first|k_is|kernel_rfl)
