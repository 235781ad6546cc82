import PyProof.Rows.All
import Wide.All
import OpenK.AllK
import Wide.FinOn
import Lean
import PyProof.EqAt
import PyProof.EqKinds
import PyProof.TupleCall
import PyProof.StrLoop
import PyProof.StrWalks
import PyProof.StrCalls2
import KE.KIntText
import PyProof.IsRules
import PyProof.ZipIter
import PyProof.TupleIter
import PyProof.WalksMore
import PySem.Challenge.RW_stayprice_k93_whole_from_text_to_paper
set_option maxHeartbeats 0
set_option linter.all false
set_option Elab.async false
def zX0:=@List.length_map
def zX1:=@PySem.wpAny_bind
def zX2:=@PySem.Heap.get?_push_of_some
def zX3:=@List.getElem?_eq_getElem
def zX4:=@Nat.lt_of_lt_of_le
def zX5:=@List.getElem?_eq_some_iff
def zX6:=@List.mem_cons
def zX7:=@Nat.le_refl
def zX8:=@List.mem_cons_of_mem
def zX9:=@List.mem_cons_self
def zY0:=@List.mem_singleton
def zY1:=@Nat.le_trans
def zY2:=@List.getD_eq_getElem?_getD
def zY3:=@List.getElem?_map
def zY4:=@PySem.Heap.lt_size
def zY5:=@PySem.Heap.get?_push_size
def zY6:=@PySem.wpAny_pure
def zY7:=@List.length_cons
def zY8:=@Nat.le_add_right
def zY9:=@Nat.zero_le
def zZ0:=@List.size_toArray
def zZ1:=@List.not_mem_nil
def zZ2:=@List.map_cons
def zZ3:=@Nat.le_of_eq
def zZ4:=@Option.map_eq_some_iff
def zZ5:=@Nat.lt_of_le_of_lt
def zZ6:=@Nat.ne_of_lt
def zZ7:=@decide_eq_false
def zZ8:=@Bool.false_ne_true
def zZ9:=@List.length_append
def z00:=@Option.some.inj
def z01:=@PySem.Heap.get?_update_other
def z02:=@decide_eq_true
def z03:=@PySem.W.mg_none_of
def z04:=@List.nil_append
def z05:=@Nat.add_lt_add_left
def z06:=@List.mem_map
def z07:=@List.mem_append_right
def z08:=@or_false
def z09:=@Ne.symm
def z20:=@Nat.le_of_ble_eq_true
def z21:=@PyProof.Rows.callWith_type1
def z22:=@List.map_append
def z23:=@List.mem_of_getElem?
def z24:=@Bool.and_eq_true
def z25:=@Bool.false_eq_true
def z26:=@Nat.lt_irrefl
def z27:=@PySem.W.mg_of
def z28:=@PySem.wpAny_truthy_bool
def z29:=@PySem.wpAny_mono
def z30:=@Nat.le_of_lt
def z31:=@List.mem_append
def z32:=@List.lookup_cons
def z33:=@List.getElem?_set_ne
def z34:=@Nat.lt_succ_self
def z35:=@List.length_take
def z36:=@PySem.mem_of_lookup
def z37:=@decide_eq_true_eq
def z38:=@decide_eq_false_iff_not
def z39:=@List.append_nil
def z40:=@List.map_map
def z41:=@PySem.sizeLine_eq
def z42:=@List.take_add_one
def z43:=@PySem.wpAny_holding
def z44:=@PySem.Heap.size_push
def z45:=@PySem.wpAny_seqItems
def z46:=@PySem.StrLaws.glued_eq_join
def z47:=@PySem.W.kia_one
def z48:=@List.length_set
def z49:=@Nat.lt_add_of_pos_right
def z50:=@Int.eq_ofNat_of_zero_le
def z51:=@PySem.F.plain_min_loop
def z52:=@Array.toList_append
def z53:=@List.getElem?_append_left
def z54:=@List.find?_cons
def z55:=@PySem.F.plain_extend_loop
def z56:=@PySem.F.slot_zip_next
def z57:=@List.getElem_mem
def z58:=@List.take_length
def z59:=@List.sum_cons
def z60:=@PySem.wpAny_pyIter_list
def z61:=@Nat.le_of_lt_succ
def z62:=@PySem.wpAny_updateSeq
def z63:=@List.length_reverse
def z64:=@PySem.wpAny_nextOf_list_item
def z65:=@if_false
def z66:=@Nat.le_of_not_lt
def z67:=@List.all_eq_true
def z68:=@List.drop_eq_getElem_cons
def z69:=@Nat.le_antisymm
def z70:=@PyProof.Rows.get?_update_seq
def z71:=@Nat.mul_le_mul_right
def z72:=@Bool.and_eq_true_iff
def z73:=@List.getElem?_replicate
def z74:=@beq_eq_false_iff_ne
def z75:=@List.getElem?_set_self
def z76:=@Nat.le_succ
def z77:=@Int.le_refl
def z78:=@PySem.wpAny_letGo
def z79:=@PySem.wpAny_field
def z80:=@Nat.ne_of_gt
def z81:=@Int.lt_of_lt_of_le
def z82:=@PySem.wpAny_passesOwn
def z83:=@Bool.or_eq_true
def z84:=@Nat.div_add_mod
def z85:=@List.getElem?_eq_none
def z86:=@List.getElem?_append_right
def z87:=@List.any_cons
def z88:=@PySem.plainId_quiet
def z89:=@List.mem_append_left
def z90:=@PySem.Around.under_plainId
def z91:=@Nat.lt_or_ge
def z92:=@if_true
def z93:=@PySem.wpAny_Call_Name_kw
def z94:=@PySem.wpAny_ite_split
def z95:=@List.length_nil
def z96:=@PySem.PassesOwn.never
def z97:=@Int.emod_lt_of_pos
def z98:=@PySem.F.slot_str_split
def z99:=@PySem.StrLaws.join_length_le
def ya0:=@Int.toNat_natCast
def ya1:=@Bool.not_eq_true'
def ya2:=@of_decide_eq_true
def ya3:=@Bool.false_and
def ya4:=@PySem.Heap.get?_update_self
def ya5:=@List.map_nil
def ya6:=@PySem.builtinLookup_eq_fast
def ya7:=@PySem.Str.cps_append
def ya8:=@Array.mem_toList_iff
def ya9:=@List.length_drop
def yb0:=@List.drop_length
def yb1:=@List.filter_cons
def yb2:=@List.cons_append
def yb3:=@List.mem_of_mem_take
def yb4:=@Bool.or_false
def yb5:=@PySem.strLen_append
def yb6:=@Bool.true_and
def yb7:=@Array.getElem?_eq_some_iff
def yb8:=@List.cons.inj
def yb9:=@List.filterMap_cons
def yc0:=@Array.length_toList
def yc1:=@PySem.Heap.SameBut.update
def yc2:=@List.take_succ_cons
def yc3:=@Array.Perm.refl
def yc4:=@PySem.wpAny_specialOf
def yc5:=@PySem.codeAny_builtin
def yc6:=@List.foldl_cons
def yc7:=@Int.emod_nonneg
def yc8:=@Int.natCast_nonneg
def yc9:=@Nat.succ_pos
def yd0:=@PySem.wpAny_setField_rec
def yd1:=@PySem.tupleKind_room_in1
def yd2:=@List.pairwise_cons
def yd3:=@PySem.F.args_str_split_2
def yd4:=@PySem.boot_len
def yd5:=@PySem.wpAny_is_plain
def yd6:=@List.getElem?_cons_succ
def yd7:=@PySem.wpAny_callSpecial?_slot
def yd8:=@PySem.F.args_zip_next_1
def yd9:=@PySem.F.entry_str_split
def ye0:=@Nat.lt_succ_of_lt
def ye1:=@PySem.F.entry_zip_next
def ye2:=@PySem.F.entry_min_loop
def ye3:=@Int.lt_irrefl
def ye4:=@PySem.wpAny_call_entry
def ye5:=@PySem.W.methodCall_KW
def ye6:=@List.length_singleton
def ye7:=@PySem.wpAny_execs_nil
def ye8:=@Int.ne_of_gt
def ye9:=@Int.le_of_lt
def yf0:=@Bool.eq_iff_iff
def yf1:=@PySem.codeAny_mono
def yf2:=@List.nodup_cons
def yf3:=@PySem.wpAny_loadPart'
def yf4:=@Int.not_le
def yf5:=@List.forIn_cons
def yf6:=@Nat.mul_comm
def yf7:=@List.mem_iff_getElem
def yf8:=@PySem.typeLookup_type
def yf9:=@Int.natCast_add
def yg0:=@Nat.add_le_add_right
def yg1:=@PySem.W.plainGet_of
def yg2:=@ne_true_of_eq_false
def yg3:=@List.map_eq_nil_iff
def yg4:=@List.mem_filterMap
def yg5:=@PySem.W.callWith_K
def yg6:=@List.forIn_toArray
def yg7:=@List.getElem?_drop
def yg8:=@Array.all_eq_true'
def yg9:=@List.all_cons
def yh0:=@Bool.false_or
section
variable {a b c d e f g A B C D E F G H I J K L:Nat}{p q r s t u v w P Q R S T U V W:Int}
theorem om0 (h:a<b):b-(a+1)<b-a:=by lia
theorem om5 (h:0=a-b)(i:b<=a):b=a:=by lia
theorem om6 (h:a+1=b-c):c<b:=by omega
theorem om7 (h:a+b=c-d):a=c-(d+b):=by omega
theorem om9 (h:(a:Int)<(b:Int)):a<b:=by omega
theorem zW1 (h:a+64<b):a+1<b:=(Nat.lt_trans (z05 (by decide) a) h)
theorem zJ0 (h:a<=1000):((min b a:Nat):Int)<=1000:=by lia
theorem fg (h:a<64):a<=16777216:=(z30 (Nat.lt_trans h (by decide:(64:Nat)<(16777216:Nat))))
theorem zV3 :p+q=q+p:=by lia
theorem zV8 :p+(q+r)=p+q+r:=by lia
theorem zT2 (h:p<=q)(i:r<=s):p+r<=s+q:=by lia
theorem zP5 (h:p<=q+(a:Int)):p<=q+((a+b:Nat):Int):=by lia
theorem zR7 (h:p<=q+((a+1:Nat):Int))(i:¬p<=q+(a:Int)):p=q+1+(a:Int):=by lia
theorem zV9 :p+1+(a:Int)<=p+((a+1:Nat):Int):=by lia
theorem zS1 (h:p<=q+r):p<q+1+r:=by lia
theorem zS4 (h:a+b<=c)(i:d<b):a+d<c:=by lia
theorem zS7 :p+q-p<=q:=by lia
theorem zV7 (h:(a:Int)=(b:Int)):a=b:=by lia
theorem zW6 (h:a<=b+c)(i:b<=d+e):a<=d+(c+e):=by lia
theorem zP7 (h:a<=b)(i:c<=b):max a c<=b:=by lia
theorem zs2 (h:a<=7):a+1<=8:=(zZ5 h (by decide:(7:Nat)<(8:Nat)))
theorem zx2 (h:a+b<=c)(i:d<=e+b)(j:e<=a):d<=c:=by lia
theorem zJ4 (h:a+1+1<2):False:=by lia
theorem zp4 (h:2<=a)(i:a=b):0<b:=(zX4 (by decide:(0:Nat)<(2:Nat)) (zY1 h (zZ3 i)))
theorem iy (h:a+(b+c)<=d):a+c+b<=d:=by lia
theorem eQ (h:a<b+1)(i:¬a=b):a<b:=by lia
theorem zJ9 :a+(b+c)=a+c+b:=by lia
theorem zQ8 (h:p<=q):p+(((q-p).toNat:Nat):Int)=q:=by omega
theorem zr1 (h:(a:Int)=(b:Int)):b=a:=by lia
theorem zr2 (h:a+max b c<d):a+c<d:=by lia
theorem zP2 (h:a+b+c=d+b+e):a+c=d+e:=by lia
theorem zK5 (h:a+b=a+c):¬c<b:=by lia
theorem zL4 (h:0+a=b+1+c):c<a:=by lia
theorem zN2 (h:a+b=0+c):¬c<b:=by lia
theorem zN5 (h:a=b)(i:c=d):b+c=d+a:=by lia
theorem zr4 (h:a-b=0)(i:b<=a):b=a:=by omega
theorem zv6 (h:a-b=c+1):b<a:=by omega
theorem cF (h:a-b=c+d):a-(b+d)=c:=by omega
theorem rh (h:a<b):b-1<b:=by lia
theorem zO8 (h:a<=b):(a:Int)-(b:Int)<=0:=by lia
theorem zQ4 (h:a=16777216)(i:b<=a):¬(b:Int)≥2^63:=by lia
theorem zP4 (h:a=16777216)(i:b<=a):b<=1099511627776:=(z30 (zZ5 i (zZ5 (zZ3 h) (by decide:(16777216:Nat)<(1099511627776:Nat)))))
theorem cu (h:a=16777216)(i:b=c)(j:b<=a):(c:Int)<2^63:=by lia
theorem zs4 (h:a+3*(b+c)+d<e):a+c+3*b+d<e:=by lia
theorem zv8 (h:a+16*(b+c)+200<d):a+c+16*b+200<d:=by lia
theorem zM8 (h:a=b)(i:b<=c):a+(c-a)=c:=by lia
theorem cn (h:a<2^63)(i:p<(b:Int))(j:b<=a):p<2^63:=by lia
theorem aZ (h:(-(a:Int))<=p)(i:a<=b)(j:b<2^63):(-(2^63))<=p:=by lia
theorem zv3 (h:p<0):max 0 (min (p+q) q)=(((p+q).toNat:Nat):Int):=by lia
theorem zt0 :max 0 (min p (a:Int))=((min p.toNat a:Nat):Int):=by lia
theorem zu3 (h:a<2^63)(i:b=c)(j:b<=a):(c:Int)<2^63:=by lia
theorem zJ2 (h:a+b<=c)(i:a=d)(j:b=e):d+e<=c:=by lia
theorem zu9 (h:a<=b)(i:¬a=b):a<=b-1:=by lia
theorem zv9 (h:a<1)(i:b<=a):b=0:=by lia
theorem zp8 (h:a<1):a=0:=by lia
theorem ip (h:a<=b+c+d):a<=b+(d+c):=by lia
theorem zt2 (h:a<b):b<=b-c+b-1-a+c:=by omega
theorem zs5 (h:a<b)(i:c<=a):c+b-1-a<b:=by omega
theorem zs7 (h:a-b<=c):a<=c+b:=by lia
theorem zr0 :¬(a<=b/\b<b):=by lia
theorem qN (h:a+1<=b+(0+1))(i:b<a+1):b=a:=by omega
theorem zw1 (h:a+b<=c+(d+b)):a<=c+d:=by lia
theorem zx5 :a<=a-b+(c+b):=by omega
theorem zr9 (h:a<b):0+b-1-c<b:=by omega
theorem eJ (h:a<=b+(c-b))(i:b<=c):a<=c:=by omega
theorem zu1 (h:a<b):a<=b-1:=by omega
theorem zt5 (h:a>1):a-1<a:=by lia
theorem iB (h:a<b)(i:b<=c)(j:d<=1+(b-1)):d<=c:=by lia
theorem zu7 (h:a<b+1)(i:c<a):a-1<b:=by lia
theorem zO5 (h:a<=1000):a<=16777216:=(z30 (zZ5 h (by decide:(1000:Nat)<(16777216:Nat))))
theorem aK :a<a+5\/a+5<a:=(.inl (z49 (by decide)))
theorem zv0 :a+4<a\/a<a+4:=(.inr (z49 (by decide)))
theorem cG :a+4<a+5\/a+5<a+4:=(.inl (z05 (by decide) a))
theorem bZ :a+1<a+5\/a+5<a+1:=(.inl (z05 (by decide) a))
theorem bH :a+1<a+4\/a+4<a+1:=(.inl (z05 (by decide) a))
theorem zt7 :a+4<a+1\/a+1<a+4:=(.inr (z05 (by decide) a))
theorem za8 :a+2<a+5\/a+5<a+2:=(.inl (z05 (by decide) a))
theorem zt4 :a+2<a\/a<a+2:=(.inr (z49 (by decide)))
theorem aR :a+2<a+4\/a+4<a+2:=(.inl (z05 (by decide) a))
theorem zp3 :a+2<a+1\/a+1<a+2:=(.inr (z05 (by decide) a))
theorem zw8 :a+4<a+2\/a+2<a+4:=(.inr (z05 (by decide) a))
theorem aW :a+5<a+4\/a+4<a+5:=(.inr (z05 (by decide) a))
theorem zw9 :a+5<a+2\/a+2<a+5:=(.inr (z05 (by decide) a))
theorem zu6 :a+5<a+1\/a+1<a+5:=(.inr (z05 (by decide) a))
theorem zp1 :a+5<a\/a<a+5:=(.inr (z49 (by decide)))
theorem aB :a<a+4\/a+4<a:=(.inl (z49 (by decide)))
theorem zr6 :a<a+2\/a+2<a:=(.inl (z49 (by decide)))
theorem zu4 :a+1<a+2\/a+2<a+1:=(.inl (z05 (by decide) a))
theorem ag :a+3<a+5\/a+5<a+3:=(.inl (z05 (by decide) a))
theorem zx4 :a+3<a\/a<a+3:=(.inr (z49 (by decide)))
theorem zw3 :a+3<a+1\/a+1<a+3:=(.inr (z05 (by decide) a))
theorem zt3 :a+3<a+2\/a+2<a+3:=(.inr (z05 (by decide) a))
theorem zs1 (h:(-(2^62))<=p):(-(2^63))<=p:=by lia
theorem zt9 (h:p<2^62):p<2^63:=by lia
end
set_option maxRecDepth 100000
namespace L2
open PySem PySem.Spec PyProof.Rows
abbrev Key :=Sum Int Str
def sE :Key->Value->Bool
 |.inl k,v=>Value.isInt k v
 |.inr x,v=>Value.isStrOf x v
def zW8 (w:World):Key->Int
 |.inl k=>hashInt k
 |.inr x=>hashStr w x
theorem zY :∀{k:Key}{v:Value},sE k v=true->(∃i t,k=Sum.inl i/\v=Value.int i t)\/(∃x t,k=Sum.inr x/\v=Value.str x t)
 |.inl i,v,h=>by
  obtain⟨t,e⟩:=Value.isInt_shape (k:=i) (v:=v) h;exact .inl ⟨i,t,rfl,e⟩
 |.inr x,v,h=>by
  obtain⟨t,e⟩:=Value.isStrOf_shape (x:=x) (v:=v) h;exact .inr ⟨x,t,rfl,e⟩
theorem fu (i:Int)(t:Tok):sE (.inl i) (.int i t)=true:=by simp[sE,Value.isInt]
theorem gP (x:Str)(t:Tok):sE (.inr x) (.str x t)=true:=by simp[sE,Value.isStrOf]
theorem zE4 (a b:Int):decide ((Sum.inl a:Key)=Sum.inl b)=(a == b):=by
 by_cases e:a=b
 ·subst e;simp
 ·have h:¬(Sum.inl a:Key)=Sum.inl b:=λq=>e (Sum.inl.inj q);rw[zZ7 h];exact(z74.mpr e).symm
theorem zB8 (a b:Str):decide ((Sum.inr a:Key)=Sum.inr b)=decide (a=b):=by
 by_cases e:a=b
 ·subst e;simp
 ·have h:¬(Sum.inr a:Key)=Sum.inr b:=λq=>e (Sum.inr.inj q);rw[zZ7 h,zZ7 e]
theorem zB7 (a:Int)(b:Str):decide ((Sum.inl a:Key)=Sum.inr b)=false:=zZ7 (λq=>nomatch q)
theorem zA1 (a:Str)(b:Int):decide ((Sum.inr a:Key)=Sum.inl b)=false:=zZ7 (λq=>nomatch q)
def zX (prog:Program)(w:World):PySem.KeyKind prog w Key where
 is:=sE
 hash:=zW8 w
 inj:=λv a b ha hb=>by
  rcases zY ha with⟨i,t,rfl,rfl⟩|⟨x,t,rfl,rfl⟩
  ·rcases zY hb with⟨j,u,rfl,e⟩|⟨y,u,rfl,e⟩
   ·injection e with e1 _;rw[e1]
   ·exact nomatch e
  ·rcases zY hb with⟨j,u,rfl,e⟩|⟨y,u,rfl,e⟩
   ·exact nomatch e
   ·injection e with e1 _;rw[e1]
 byValue:=λk v h=>by
  rcases zY h with⟨i,t,rfl,rfl⟩|⟨x,t,rfl,rfl⟩<;>rfl
 pyHash:=λc h=>by
  rcases zY c with⟨i,t,rfl,rfl⟩|⟨x,t,rfl,rfl⟩
  ·exact wpAny_pyHash_int h
  ·exact wpAny_pyHash_str h
 eqBool:=λd c h=>by
  rcases zY d with⟨i,t,rfl,rfl⟩|⟨x,t,rfl,rfl⟩
  ·rcases zY c with⟨j,u,rfl,rfl⟩|⟨y,u,rfl,rfl⟩
   ·rw[zE4]at h;exact wpAny_eqBool_int h
   ·rw[zB7]at h;exact SeqAt.EqAt.int_str i t y u _ _ _ _ h
  ·rcases zY c with⟨j,u,rfl,rfl⟩|⟨y,u,rfl,rfl⟩
   ·rw[zA1]at h;exact SeqAt.EqAt.str_int x t j u _ _ _ _ h
   ·rw[zB8]at h;exact wpAny_eqBool_str h
 «strs»:=λk x t v h=>by
  rcases zY h with⟨i,u,rfl,e⟩|⟨y,u,rfl,e⟩
  ·exact nomatch e
  ·injection e with e1 _;subst e1;cases v<;>rfl
theorem oM (prog:Program)(w:World)(i:Int)(t:Tok):(zX prog w).is (.inl i) (.int i t)=true:=fu i t
theorem nX (prog:Program)(w:World)(x:Str)(t:Tok):(zX prog w).is (.inr x) (.str x t)=true:=gP x t
inductive V where
 |non|bl (b:Bool)|int (i:Int)|str (x:Str)|byt (b:Array UInt8)|flt (b:UInt64)|ref (a:Addr)|ty (n:String)
 deriving DecidableEq
def RelV :V->Value->Prop
 |.non,u=>u=Value.none
 |.bl b,u=>u=Value.bool b
 |.int i,u=>∃t,u=Value.int i t
 |.str x,u=>∃t,u=Value.str x t
 |.byt b,u=>∃t,u=Value.bytes b t
 |.flt b,u=>∃t,u=Value.float b t
 |.ref a,u=>u=Value.ref a
 |.ty n,u=>u=Value.type n
abbrev Vals :List V->List Value->Prop:=Paired RelV
theorem Vals.length {xs:List V}{us:List Value}(r:Vals xs us):xs.length=us.length:=Paired.length r
theorem Vals.get :∀{xs:List V}{us:List Value}{i:Nat}{x:V},Vals xs us->xs[i]?=some x->∃u,us[i]?=some u/\RelV x u
 |_,_,_,_,.nil,e=>by simp at e
 |_,_,0,_,.cons r _,e=>by simp at e;subst e;exact⟨_,rfl,r⟩
 |_,_,i+1,x,.cons _ t,e=>by
  obtain⟨u,h1,h2⟩:=Vals.get (i:=i) (x:=x) t (by simpa using e);exact⟨u,by simpa using h1,h2⟩
theorem Vals.set {x:V}{u:Value}(r:RelV x u):∀{xs:List V}{us:List Value} (i:Nat),Vals xs us->Vals (xs.set i x) (us.set i u)
 |_,_,_,.nil=>.nil
 |_,_,0,.cons _ t=>.cons r t
 |_,_,i+1,.cons q t=>.cons q (Vals.set r i t)
theorem Vals.append {xs ys:List V}{us ws:List Value}(h:Vals xs us)(s:Vals ys ws):Vals (xs++ys) (us++ws):=by
 induction h with
 |nil=>exact s
 |cons r _ a=>exact .cons r a
theorem Vals.take :∀{xs:List V}{us:List Value} (n:Nat),Vals xs us->Vals (xs.take n) (us.take n)
 |_,_,0,_=>.nil
 |_,_,_+1,.nil=>.nil
 |_,_,n+1,.cons r t=>.cons r (Vals.take n t)
theorem Vals.drop :∀{xs:List V}{us:List Value} (n:Nat),Vals xs us->Vals (xs.drop n) (us.drop n)
 |_,_,0,r=>r
 |_,_,_+1,.nil=>.nil
 |_,_,n+1,.cons _ t=>Vals.drop n t
def vo :Option V->Option Value->Prop
 |some v,some u=>RelV v u
 |none,none=>True
 |_,_=>False
def KV {a:Type}:List (a×V)->List (a×Value)->Prop:=Paired λ(p:a×V) (q:a×Value)=>p.1=q.1/\RelV p.2 q.2
def kV :Key->V
 |.inl i=>.int i
 |.inr x=>.str x
inductive HO where
  |lst (xs:List V)
  |tup (xs:List V)
  |dK (kvs:List (Key×V))|dT (kvs:List (List Key×V))
  |set (S:Int->Bool) (n:Nat)
  |ins (C dx:Addr) (fs:List (Str×V))
  |own (x:Addr)
  |xd (fs:List (Str×V))
  |met (f x:Addr)
  |rng (lo hi:Int)
  |frz (o:Obj) (u:HO)
  |tbl (ps:Array Value)
  |ext (φ:Heap->Prop)
abbrev Hp :=Addr->Option HO
def upd (H:Hp)(a:Addr)(o:HO):Hp:=λb=>if b=a then some o else H b
theorem zi {H:Hp}{a:Addr}{o:HO}:upd H a o a=some o:=by unfold upd;rw[if_pos rfl]
theorem zb {H:Hp}{a b:Addr}{o:HO}(h:b≠a):upd H a o b=H b:=by unfold upd;rw[if_neg h]
theorem tL {H:Hp}{a:Addr}{o u:HO}:upd (upd H a o) a u=upd H a u:=by funext b;unfold upd;split<;>rfl
theorem eo {H:Hp}{a b:Addr}{o u:HO}(h:H a=some o)(h':H b=some u)(d:o≠u):a≠b:=by intro e;subst e;rw[h]at h';exact d (z00 h')
theorem zj {H:Hp}{a b:Addr}{o:HO}(h:H a=some o)(h':H b=none):a≠b:=by intro e;subst e;rw[h]at h';cases h'
section
variable (P:Program)(w:World)
def zE (H:Hp)(h:Heap)(a:Addr):HO->Prop
 |.lst xs=>xs.length<=sizeLine/\∃(b:List Value) (n:Nat),Vals xs b/\h.get? a=some {cls:=.type "list",data:=.seq b.toArray n}
 |.tup xs=>xs.length<=sizeLine/\∃b:List Value,Vals xs b/\IsTup h a b.toArray
 |.dK kvs=>kvs.length<=sizeLine/\(a == sysModules)=false/\∃vs,KV kvs vs/\h.DictOf (zX P w) a vs
 |.dT kvs=>kvs.length<=sizeLine/\(a == sysModules)=false/\∃xs:List (List Key×Addr×Value),
   Paired (λ(p:List Key×V) (q:List Key×Addr×Value)=>p.1=q.1/\H q.2.1=some (.tup (p.1.map kV))/\RelV p.2 q.2.2) kvs xs/\
   ∃o c d,h.get? a=some o/\o.ExactDict/\o.data=.dict c d/\c.toList=xs.map (entryOfKey (tupleKind (zX P w)))/\(xs.map (·.1)).Nodup
 |.set S n=>h.SetOf (intKind P w) a S n
 |.ins C dx fs=>H dx=some (.own a)/\fs.length<=1000/\dx≠a/\h.get? a=some (PySem.W.instObj C dx)/\
   ∃mA,h.Ns1 dx mA/\(∀f,vo (fs.lookup f) (mA f))/\PySem.Within mA (fs.map (·.1))
 |.own _=>∃o,h.get? a=some o
 |.xd fs=>∃mA,h.Ns1 a mA/\∀f,vo (fs.lookup f) (mA f)
 |.rng lo hi=>∃t u v,h.get? a=some {cls:=.type "range",data:=.fields #[.int lo t,.int hi u,.int 1 v]}
 |.frz o u=>h.get? a=some o/\zE H h a u
 |.tbl ps=>h.get? a=some {cls:=.none,data:=.fields ps}
 |.met f x=>h.get? a=some (PySem.W.methodObj (.ref f) (.ref x))
 |.ext φ=>φ h/\(∃o,h.get? a=some o)/\∀h1 h2:Heap,φ h1->(∀o,h1.get? a=some o->h2.get? a=some o)->φ h2
def HOk (H:Hp)(h:Heap):Prop:=∀a o,H a=some o->zE P w H h a o
end
section
variable {P:Program}{w:World}{H H':Hp}{h h':Heap}{a:Addr}{o:HO}
theorem zE.lt (x:zE P w H h a o):a<h.objs.size:=by
 cases o with
 |lst xs=>obtain⟨_,_,_,_,e⟩:=x;exact zY4 e
 |tup xs=>obtain⟨_,_,_,p⟩:=x;exact p.lt
 |dK kvs=>obtain⟨_,_,_,_,o,_,_,e,_⟩:=x;exact zY4 e
 |dT kvs=>obtain⟨_,_,_,_,o,_,_,e,_⟩:=x;exact zY4 e
 |set S n=>obtain⟨o,_,_,_,e,_⟩:=x;exact zY4 e
 |ins C dx fs=>obtain⟨_,_,_,e,_⟩:=x;exact zY4 e
 |own y=>obtain⟨_,e⟩:=x;exact zY4 e
 |xd fs=>obtain⟨_,⟨_,_,_,e,_⟩,_⟩:=x;exact zY4 e
 |rng lo hi=>obtain⟨_,_,_,e⟩:=x;exact zY4 e
 |frz ob u=>obtain⟨e,_⟩:=x;exact zY4 e
 |tbl ps=>exact zY4 (show h.get? a=some _ from x)
 |met f y=>exact zY4 (show h.get? a=some _ from x)
 |ext φ=>obtain⟨_,⟨_,e⟩,_⟩:=x;exact zY4 e
theorem Paired.mapP {α β:Type}{F G:α->β->Prop}{c:List α}{l₂:List β}(h:Paired F c l₂)(f:∀a b,F a b->G a b):Paired G c l₂:=by
 induction h with
 |nil=>exact .nil
 |cons r _ d=>exact .cons (f _ _ r) d
theorem zE.stay (x:zE P w H h a o)(k:∀b u,(b=a\/H b=some (.own a))->h.get? b=some u->h'.get? b=some u)
  (l:∀b,H b=some (.own a)->H' b=some (.own a)) (m:∀b xs,H b=some (.tup xs)->H' b=some (.tup xs)):zE P w H' h' a o:=by
 induction o with
 |lst xs=>obtain⟨z,j,n,r,e⟩:=x;exact⟨z,j,n,r,k _ _ (.inl rfl) e⟩
 |tup xs=>obtain⟨z,j,r,ob,e,c⟩:=x;exact⟨z,j,r,ob,k _ _ (.inl rfl) e,c⟩
 |dK kvs=>obtain⟨z,y,vs,r,ob,i,g,e,c⟩:=x;exact⟨z,y,vs,r,ob,i,g,k _ _ (.inl rfl) e,c⟩
 |dT kvs=>
  obtain⟨z,y,xs,r,ob,i,g,e,c⟩:=x;exact⟨z,y,xs,Paired.mapP r λp q z=>⟨z.1,m _ _ z.2.1,z.2.2⟩,ob,i,g,k _ _ (.inl rfl) e,c⟩
 |set S n=>obtain⟨ob,i,g,t,e,c⟩:=x;exact⟨ob,i,g,t,k _ _ (.inl rfl) e,c⟩
 |ins C dx fs=>
  obtain⟨d,z,ne,e,mA,⟨od,i,g,A,c⟩,r⟩:=x;exact⟨l _ d,z,ne,k _ _ (.inl rfl) e,mA,⟨od,i,g,k _ _ (.inr d) A,c⟩,r⟩
 |own y=>obtain⟨ob,e⟩:=x;exact⟨ob,k _ _ (.inl rfl) e⟩
 |xd fs=>obtain⟨mA,⟨od,i,g,e,c⟩,r⟩:=x;exact⟨mA,⟨od,i,g,k _ _ (.inl rfl) e,c⟩,r⟩
 |rng lo hi=>obtain⟨t,u,v,e⟩:=x;exact⟨t,u,v,k _ _ (.inl rfl) e⟩
 |frz ob u s=>obtain⟨e,q⟩:=x;exact⟨k _ _ (.inl rfl) e,s q⟩
 |tbl ps=>
  have e:h.get? a=some {cls:=.none,data:=.fields ps}:=x;show h'.get? a=some {cls:=.none,data:=.fields ps};exact k a _ (.inl rfl) e
 |met f y=>
  have e:h.get? a=some (PySem.W.methodObj (.ref f) (.ref y)):=x;show h'.get? a=some (PySem.W.methodObj (.ref f) (.ref y));exact k a _ (.inl rfl) e
 |ext φ=>obtain⟨p,⟨o,e⟩,st⟩:=x;exact⟨st _ _ p λo q=>k _ _ (.inl rfl) q,⟨o,k _ _ (.inl rfl) e⟩,st⟩
theorem HOk.lt (x:HOk P w H h)(e:H a=some o):a<h.objs.size:=(x a o e).lt
theorem HOk.fresh (x:HOk P w H h)(e:h.objs.size<=a):H a=none:=by
 cases q:H a with
 |none=>rfl
 |some u=>exact absurd (zX4 (x.lt q) e) (z26 _)
theorem HOk.kept (x:HOk P w H h)(k:∀b u,h.get? b=some u->h'.get? b=some u):HOk P w H h':=λa o e=>
 (x a o e).stay (λb u _ q=>k b u q) (λ_ q=>q) λ_ _ q=>q
theorem HOk.laid (x:HOk P w H h)(k:∀b u,h.get? b=some u->h'.get? b=some u)(d:h.objs.size<=a)(new:zE P w (upd H a o) h' a o):HOk P w (upd H a o) h':=λb u e=>by
 have hn:=x.fresh d;by_cases hb:b=a
 ·subst hb;rw[zi]at e;cases e;exact new
 ·rw[zb hb]at e;exact(x b u e).stay (λc v _ q=>k c v q) (λc q=>by rw[zb (zj q hn)];exact q) λc xs q=>by rw[zb (zj q hn)];exact q
end
def Rd (H:Hp)(a:Addr)(u:HO):Prop:=H a=some u\/∃o,H a=some (.frz o u)
theorem Rd.ok {P:Program}{w:World}{H:Hp}{h:Heap}{a:Addr}{u:HO}(r:Rd H a u)(x:HOk P w H h):zE P w H h a u:=by
 rcases r with r|⟨o,r⟩
 ·exact x a u r
 ·obtain⟨_,q⟩:=x a _ r;exact q
def Mut :Option HO->Prop
 |some (.lst _)=>True
 |some (.dK _)=>True
 |some (.dT _)=>True
 |some (.set _ _)=>True
 |some (.ins _ _ _)=>True
 |some (.ext _)=>True
 |_=>False
section
variable {P:Program}{w:World}{H:Hp}{h h':Heap}{x e:Addr}{o':HO}
theorem HOk.write (ok:HOk P w H h)(i:Mut (H x))(he:e=x\/H e=some (.own x))(k:∀b u,b≠e->h.get? b=some u->h'.get? b=some u)(j:∃u,h'.get? e=some u)
  (new:zE P w (upd H x o') h' x o'):HOk P w (upd H x o') h':=λb u q=>by
 have d:∀c y,H c=some (.own y)->c≠x:=λc y r z=>by subst z;rw[r]at i;exact i
 have f:∀c xs,H c=some (.tup xs)->c≠x:=λc xs r z=>by subst z;rw[r]at i;exact i
 by_cases hb:b=x
 ·subst hb;rw[zi]at q;cases q;exact new
 ·rw[zb hb]at q;by_cases a:b=e
  ·have l:H b=some (.own x):=by
    rcases he with z|z
    ·exact absurd (a.trans z) hb
    ·rw[a];exact z
   rw[q]at l;cases l;obtain⟨v,m⟩:=j;exact⟨v,by rw[a];exact m⟩
  ·refine(ok b u q).stay (λc v g r=>k c v ?_ r) (λc r=>by rw[zb (d c b r)];exact r) λc xs r=>by rw[zb (f c xs r)];exact r
   rcases g with rfl|g
   ·exact a
   ·rintro rfl;rcases he with z|z
    ·exact d c b g z
    ·rw[g]at z;cases z;exact hb rfl
end
structure Un (fs ex:List Addr)(H H':Hp)(h h':Heap):Prop where
 keep:∀b o,h.get? b=some o->H b=none->b∉fs->b∉ex->h'.get? b=some o
 slot:∀b o,h.get? b=some o->H b=none->b∈fs->b∉ex->∃sl,h'.get? b=some {o with slots:=sl}
 free:∀b o,h.get? b=some o->H b=none->b∉ex->H' b=none
 there:∀b o,h.get? b=some o->b∉ex->∃o',h'.get? b=some o'
 tups:∀b xs,H b=some (.tup xs)->H' b=some (.tup xs)
 frzs:∀b o u,H b=some (.frz o u)->H' b=some (.frz o u)
 tbls:∀b ps,H b=some (.tbl ps)->∃more,H' b=some (.tbl (ps++more))
section
variable {fs fs' ex ex':List Addr}{H H1 H2:Hp}{h h1 h2 h':Heap}{a x e:Addr}{o:HO}
theorem Un.any (u:Un fs ex H H1 h h1){b:Addr}{ob:Obj}(q:h.get? b=some ob)(n:H b=none)(c:b∉ex):∃sl,h1.get? b=some {ob with slots:=sl}:=by
 by_cases hb:b∈fs
 ·exact u.slot b ob q n hb c
 ·exact⟨ob.slots,u.keep b ob q n hb c⟩
theorem Un.kept (k:∀b u,h.get? b=some u->h'.get? b=some u):Un fs ex H H h h':=
 ⟨λb ob q _ _ _=>k b ob q,λb ob q _ _ _=>⟨ob.slots,k b ob q⟩,λ_ _ _ n _=>n,λb ob q _=>⟨ob,k b ob q⟩,λ_ _ q=>q,λ_ _ _ q=>q,λ_ ps q=>⟨#[],by rw[q];simp⟩⟩
theorem Un.refl :Un fs ex H H h h:=Un.kept λ_ _ q=>q
theorem Un.laid (k:∀b u,h.get? b=some u->h'.get? b=some u)(c:h.objs.size<=a)(hn:H a=none):Un fs ex H (upd H a o) h h' where
 keep:=λb u q _ _ _=>k b u q
 slot:=λb u q _ _ _=>⟨u.slots,k b u q⟩
 free:=λb u q n _=>by rw[zb (zZ6 (zX4 (zY4 q) c))];exact n
 there:=λb u q _=>⟨u,k b u q⟩
 tups:=λb xs q=>by rw[zb (zj q hn)];exact q
 frzs:=λb u xs q=>by rw[zb (zj q hn)];exact q
 tbls:=λb ps q=>⟨#[],by rw[zb (zj q hn),q];simp⟩
theorem Un.write (d:Mut (H x))(he:e=x\/H e=some (.own x))(k:∀b u,b≠e->h.get? b=some u->h'.get? b=some u)(f:∃u,h'.get? e=some u):Un fs ex H (upd H x o) h h':=by
 have g:∀b,H b=none->b≠x:=λb n z=>by subst z;rw[n]at d;exact d
 have hb:∀b,H b=none->b≠e:=λb n z=>by
  subst z;rcases he with r|r
  ·exact g b n r
  ·rw[n]at r;cases r
 have hm:∀b u,H b=some u->¬Mut (some u)->b≠x:=λb u q nm z=>by subst z;rw[q]at d;exact nm d
 refine⟨λb u q n _ _=>k b u (hb b n) q,λb u q n _ _=>⟨u.slots,k b u (hb b n) q⟩,λb u q n _=>by rw[zb (g b n)];exact n,λb u q _=>?_,
  λb xs q=>by rw[zb (hm b _ q λz=>z)];exact q,λb u xs q=>by rw[zb (hm b _ q λz=>z)];exact q,λb ps q=>⟨#[],by rw[zb (hm b _ q λz=>z),q];simp⟩⟩
 by_cases c:b=e
 ·subst c;exact f
 ·exact⟨u,k b u c q⟩
end
def trk (h:Heap)(H:Hp):List Addr:=(List.range h.objs.size).filter λa=>(H a).isSome
def qh (h:Heap)(H:Hp):Heap:=PySem.W.hideAll h (trk h H)
theorem fR (h:Heap)(H:Hp):(qh h H).objs.size=h.objs.size:=PySem.W.hideAll_size _ _
theorem dH {h:Heap}{H:Hp}{b:Addr}{o:Obj}(e:h.get? b=some o)(n:H b=none):(qh h H).get? b=some o:=
 PySem.W.hideAll_get _ e λhm=>by
  have q:(H b).isSome=true:=(List.mem_filter.mp hm).2;rw[n]at q;simp at q
theorem zj1 {h:Heap}{H:Hp}{b:Addr}{o:Obj}(e:(qh h H).get? b=some o):h.get? b=some o/\H b=none:=by
 have a:h.get? b=some o:=PySem.W.of_hideAll (trk h H) e;refine⟨a,?_⟩;cases q:H b with
 |none=>rfl
 |some x=>
  have hm:b∈trk h H:=List.mem_filter.mpr ⟨List.mem_range.mpr (zY4 a),by simp[q]⟩;have z:(qh h H).get? b=none:=PySem.W.hideAll_none (trk h H) hm;rw[z]at e;cases e
structure Mod (K:PySem.W.Frag)(mg:Str->Option Value)(base:Heap):Prop where
 kin:K.In base
 glob:base.Ns mainGlobals mg
 blt:∃mb,base.Ns builtinsNs mb/\∀x:Str,x≠"__name__"->mb x=bootBuiltins x
 nolimit:base.NoLimit
structure Cx where
 prog:Program
 w:World
 K:PySem.W.Frag
 mg:Str->Option Value
 base:Heap
 A:Around
 N:List Str
 s₀:Shared
 H₀:Hp
 env:Env
 outer:List Env
 stack:List Env
 ex:List Addr
 fn:Str->Bool
 calm:Bool
 pn:List (Addr×Obj)
 xe:Value->Shared->Prop
def frs (l:List Env):List Addr:=l.filterMap (·.frame)
abbrev Cx.fs (X:Cx):List Addr:=frs X.outer
def Vis (sc:Scope)(x:Str):Prop:=sc.names.lookup x=some .local\/sc.names.lookup x=some .cell\/sc.names.lookup x=some .free
def Loc (sc:Scope)(x:Str):Prop:=sc.names.lookup x=some .local\/sc.names.lookup x=some .cell
def Look (env:Env)(h:Heap)(m:Str->Option Value)(x:Str)(u:Value):Prop:=
 (env.kindOf x=some .local/\m x=some u)\/((env.kindOf x=some .cell\/env.kindOf x=some .free)/\∃c,env.cells.lookup x=some c/\h.IsCell c (some u))
structure Cx.Ok (X:Cx):Prop where
 mod:Mod X.K X.mg X.base
 kind:X.env.scope.kind=.function
 glob:X.env.globals=mainGlobals
 blt:X.env.builtins=builtinsNs
 above:X.s₀.heap.objs.size<=X.env.locals
 inj:∀x y c,X.env.cells.lookup x=some c->X.env.cells.lookup y=some c->x=y
 has:∀x,(X.env.kindOf x=some .cell\/X.env.kindOf x=some .free)->∃c,X.env.cells.lookup x=some c
 cab:∀x c,X.fn x=true->X.env.cells.lookup x=some c->X.s₀.heap.objs.size<=c
 hd:X.calm=true->X.A.handled=none
 frames:X.A.frames=some X.stack
 stk:X.stack=X.outer\/(X.stack=X.env::X.outer/\X.env.frame=some X.env.locals)
 exf:∀b∈X.ex,b≠X.env.locals/\∀x c,X.env.cells.lookup x=some c->c≠b
 bs:∀b o,X.base.get? b=some o->X.s₀.heap.get? b=some o/\X.H₀ b=none
 bsz:X.base.objs.size<=X.s₀.heap.objs.size
 noex:∀b o,X.base.get? b=some o->b∉X.ex
 exfs:∀b∈X.ex,b∉X.fs
 funs:X.s₀.heap.FunFrames X.base X.outer
 frf:∀b∈X.fs,X.H₀ b=none
structure Inv (X:Cx)(pins:List (Addr×Obj))(σ:List (Option V))(H:Hp)(s:Shared):Prop where
 ok:X.Ok
 os:s.os=X.s₀.os
 bare:AllBare s.gens
 base:Un X.fs X.ex X.H₀ H X.s₀.heap s.heap
 loc:∃m,s.heap.Ns X.env.locals m/\∀(i:Nat) (x:Str) (v:V),X.N[i]?=some x->σ[i]?=some (some v)->Vis X.env.scope x->∃u,RelV v u/\Look X.env s.heap m x u
 cell:∀x c,X.env.cells.lookup x=some c->∃v,s.heap.IsCell c v
 free:H X.env.locals=none
 freeC:∀x c,X.env.cells.lookup x=some c->H c=none
 pin:∀p∈X.pn++pins,s.heap.get? p.1=some p.2/\H p.1=none/\p.1≠X.env.locals/\p.1∉X.fs/\∀v,p.2.data≠.cell v
 hok:HOk X.prog X.w H s.heap
 len:σ.length=X.N.length
section
variable {X:Cx}{pins:List (Addr×Obj)}{σ:List (Option V)}{H H':Hp}{s:Shared}{h':Heap}
theorem Cx.Ok.nofr (ok:X.Ok){b:Addr}{o:Obj}(e:X.base.get? b=some o):b∉X.fs:=λhb=>by
 have:=(ok.funs.mem hb).1;rw[e]at this;cases this
theorem Inv.bs (I:Inv X pins σ H s):∀b o,X.base.get? b=some o->s.heap.get? b=some o/\H b=none:=λb o e=>
 ⟨I.base.keep b o (I.ok.bs b o e).1 (I.ok.bs b o e).2 (I.ok.nofr e) (I.ok.noex b o e),I.base.free b o (I.ok.bs b o e).1 (I.ok.bs b o e).2 (I.ok.noex b o e)⟩
theorem Inv.bk (I:Inv X pins σ H s):∀b o,X.base.get? b=some o->s.heap.get? b=some o:=λb o e=>(I.bs b o e).1
theorem Inv.mod (I:Inv X pins σ H s):Mod X.K X.mg X.base:=I.ok.mod
theorem Inv.kIn (I:Inv X pins σ H s):X.K.In s.heap:=I.ok.mod.kin.keeps I.bk
theorem Inv.lt (I:Inv X pins σ H s):X.env.locals<s.heap.objs.size:=let⟨_,hn,_⟩:=I.loc;hn.lt
theorem Inv.sz (I:Inv X pins σ H s):X.s₀.heap.objs.size<=s.heap.objs.size:=zY1 I.ok.above (z30 I.lt)
theorem Inv.nofs (I:Inv X pins σ H s){a:Addr}(h:s.heap.objs.size<=a):a∉X.fs:=λhb=>by
 obtain⟨_,o,b,_⟩:=I.ok.funs.mem hb;exact absurd (zX4 (zY4 b) (zY1 I.sz h)) (z26 _)
theorem Inv.cne (I:Inv X pins σ H s):∀x c,X.env.cells.lookup x=some c->c≠X.env.locals:=λx c e z=>by
 obtain⟨v,o,d,hd⟩:=I.cell x c e;obtain⟨m,⟨o',g,f,a,b,_⟩,_⟩:=I.loc;rw[z,a]at d;cases d;rw[b]at hd;cases hd
theorem Inv.funs (I:Inv X pins σ H s):s.heap.FunFrames X.base X.outer:=by
 have all:∀(l:List Env),(∀b∈frs l,b∈X.fs)->X.s₀.heap.FunFrames X.base l->s.heap.FunFrames X.base l:=by
  intro l
  induction l with
  |nil=>intro _ _;trivial
  |cons env r f=>
   intro c d;obtain⟨hk,⟨L,o,hf,hn,g,hd⟩,hr⟩:=d;have a:L∈X.fs:=c L (by unfold frs;rw[yb9,hf];exact zX9);obtain⟨sl,e⟩:=I.base.slot L o g (I.ok.frf L a) a λz=>I.ok.exfs L z a;exact⟨hk,⟨L,_,hf,hn,e,hd⟩,f (λb hb=>c b (by unfold frs;rw[yb9,hf];exact zX8 _ hb)) hr⟩
 exact all X.outer (λ_ hb=>hb) I.ok.funs
theorem Inv.stack (I:Inv X pins σ H s):s.heap.FunFrames X.base X.stack:=by
 rcases I.ok.stk with e|⟨e,hf⟩
 ·rw[e];exact I.funs
 ·rw[e];obtain⟨m,hn,_⟩:=I.loc;refine .cons (by rw[I.ok.kind];decide) hf hn ?_ I.funs;exact Heap.get?_none_of_le (zY1 I.ok.bsz I.ok.above)
theorem Inv.stkSub (I:Inv X pins σ H s):∀b∈frs X.stack,b∈X.env.locals::X.fs:=λb hb=>by
 rcases I.ok.stk with e|⟨e,hf⟩
 ·rw[e]at hb;exact zX8 _ hb
 ·rw[e]at hb;unfold frs at hb;rw[yb9,hf]at hb;exact hb
theorem Inv.stkFree (I:Inv X pins σ H s):∀b∈frs X.stack,H b=none:=λb hb=>by
 rcases zX6.mp (I.stkSub b hb)with e|hb
 ·rw[e];exact I.free
 ·obtain⟨_,o,a,_⟩:=I.ok.funs.mem hb;exact I.base.free b o a (I.ok.frf b hb) λz=>I.ok.exfs b z hb
theorem Inv.step {g':Array GenState}{t':Nat}{d':Drawn}{ch:List Addr}(I:Inv X pins σ H s)
  (g:∀b∈ch,(b∈X.ex\/X.s₀.heap.objs.size<=b)/\b≠X.env.locals/\(∀x c,X.env.cells.lookup x=some c->c≠b)/\∀p∈X.pn++pins,p.1≠b)
  (keep:∀b o,b≠X.env.locals->b∉X.fs->b∉ch->s.heap.get? b=some o->H b=none->h'.get? b=some o)
  (slot:∀b o,b≠X.env.locals->b∈X.fs->b∉ch->s.heap.get? b=some o->H b=none->∃sl,h'.get? b=some {o with slots:=sl}) (free:∀b o,b∉ch->s.heap.get? b=some o->H b=none->H' b=none)
  (there:∀b o,b∉ch->s.heap.get? b=some o->∃o',h'.get? b=some o')
  (tups:∀b xs,H b=some (.tup xs)->H' b=some (.tup xs)) (frzs:∀b o u,H b=some (.frz o u)->H' b=some (.frz o u)) (tbls:∀b ps,H b=some (.tbl ps)->∃more,H' b=some (.tbl (ps++more)))
  (ns:∀m,s.heap.Ns X.env.locals m->h'.Ns X.env.locals m) (hok:HOk X.prog X.w H' h') (hg:AllBare g'):
  Inv X pins σ H' {s with heap:=h',gens:=g',drawn:=d',toks:=t'}:=by
 have t:∀b o,X.s₀.heap.get? b=some o->b≠X.env.locals:=λb o e=>zZ6 (zX4 (zY4 e) I.ok.above);have h:∀b o,X.s₀.heap.get? b=some o->b∉X.ex->b∉ch:=λb o e a hb=>by
  rcases(g b hb).1 with z|z
  ·exact a z
  ·exact absurd (zX4 (zY4 e) z) (z26 _)
 have cellK:∀x c,X.env.cells.lookup x=some c->∀v,s.heap.IsCell c v->h'.IsCell c v:=λx c e v A=>by
  obtain⟨o,j,hd⟩:=A;have f:c∉ch:=λz=>(g c z).2.2.1 x c e rfl;by_cases D:c∈X.fs
  ·obtain⟨sl,q⟩:=slot c o (I.cne x c e) D f j (I.freeC x c e);exact⟨_,q,hd⟩
  ·exact⟨o,keep c o (I.cne x c e) D f j (I.freeC x c e),hd⟩
 refine⟨I.ok,I.os,hg,⟨λb o e n hb a=>?_,λb o e n hb a=>?_,λb o e n a=>?_,λb o e a=>?_,λb xs e=>tups b xs (I.base.tups b xs e),λb o xs e=>frzs b o xs (I.base.frzs b o xs e),λb ps e=>?_⟩,?_,λx c e=>?_,?_,λx c e=>?_,λp C=>?_,hok,I.len⟩
 ·exact keep b o (t b o e) hb (h b o e a) (I.base.keep b o e n hb a) (I.base.free b o e n a)
 ·obtain⟨sl,e1⟩:=I.base.slot b o e n hb a;obtain⟨B,y⟩:=slot b _ (t b o e) hb (h b o e a) e1 (I.base.free b o e n a);exact⟨B,y⟩
 ·obtain⟨o',e1⟩:=I.base.there b o e a;exact free b o' (h b o e a) e1 (I.base.free b o e n a)
 ·obtain⟨o',e1⟩:=I.base.there b o e a;exact there b o' (h b o e a) e1
 ·obtain⟨m1,e1⟩:=I.base.tbls b ps e;obtain⟨m2,y⟩:=tbls b _ e1;exact⟨m1++m2,by rw[y,Array.append_assoc]⟩
 ·obtain⟨m,hn,E⟩:=I.loc;refine⟨m,ns m hn,λi x v e1 y F=>?_⟩;obtain⟨u,r,l⟩:=E i x v e1 y F;refine⟨u,r,?_⟩;rcases l with l|⟨k,c,e,z⟩
  ·exact .inl l
  ·exact .inr ⟨k,c,e,cellK x c e _ z⟩
 ·obtain⟨v,z⟩:=I.cell x c e;exact⟨v,cellK x c e v z⟩
 ·obtain⟨m,⟨o,_,_,j,_⟩,_⟩:=I.loc;exact free _ o (λz=>(g _ z).2.1 rfl) j I.free
 ·obtain⟨v,o,j,hd⟩:=I.cell x c e;exact free c o (λz=>(g c z).2.2.1 x c e rfl) j (I.freeC x c e)
 ·obtain⟨e,n,ne,nf,d⟩:=I.pin p C;have f:p.1∉ch:=λz=>(g p.1 z).2.2.2 p C rfl;exact⟨keep p.1 p.2 ne nf f e n,free p.1 p.2 f e n,ne,nf,d⟩
theorem Inv.un {t':Nat}(I:Inv X pins σ H s)(u:Un X.fs [] H H' s.heap h')(hok:HOk X.prog X.w H' h'):Inv X pins σ H' {s with heap:=h',toks:=t'}:=by
 obtain⟨m,⟨o,j,i,f,r⟩,_⟩:=id I.loc;obtain⟨sl,h⟩:=u.any f I.free (by simp);exact I.step (g':=s.gens) (d':=s.drawn) (ch:=[]) (λ_ z=>nomatch z) (λb o _ hb _ e n=>u.keep b o e n hb (by simp)) (λb o _ hb _ e n=>u.slot b o e n hb (by simp)) (λb o _ e n=>u.free b o e n (by simp)) (λb o _ e=>u.there b o e (by simp)) u.tups u.frzs u.tbls (λk hm=>by
  obtain⟨o',d,c,a,g⟩:=hm;rw[f]at a;cases a;exact⟨_,d,c,h,g⟩) hok I.bare
theorem Inv.call {g':Array GenState}{t':Nat}{d':Drawn}{ch:List Addr}(I:Inv X pins σ H s)(u:Un (frs X.stack) ch H H' s.heap h')(hok:HOk X.prog X.w H' h')(hg:AllBare g')
  (d:∀b∈ch,(b∈X.ex\/X.s₀.heap.objs.size<=b)/\b≠X.env.locals/\(∀x c,X.env.cells.lookup x=some c->c≠b)/\∀p∈X.pn++pins,p.1≠b):
  Inv X pins σ H' {s with heap:=h',gens:=g',drawn:=d',toks:=t'}:=by
 obtain⟨m,⟨o,q,l,j,r⟩,_⟩:=id I.loc;obtain⟨sl,h⟩:=u.any j I.free λz=>(d _ z).2.1 rfl;exact I.step (ch:=ch) d (λb o h hb a e n=>u.keep b o e n (λz=>(zX6.mp (I.stkSub b z)).elim h hb) a) (λb o _ _ a e n=>u.any e n a) (λb o a e n=>u.free b o e n a) (λb o a e=>u.there b o e a) u.tups u.frzs u.tbls (λt hm=>by
  obtain⟨o',i,g,f,k⟩:=hm;rw[j]at f;cases f;exact⟨_,i,g,h,k⟩) hok hg
theorem Inv.turned {t':Nat}{it:Addr}(I:Inv X pins σ H s)(k:∀b o,b≠it->s.heap.get? b=some o->h'.get? b=some o)(hn:H it=none)(f:it≠X.env.locals)
  (h1:it∈X.ex\/X.s₀.heap.objs.size<=it) (h2:∀x c,X.env.cells.lookup x=some c->c≠it) (h3:∀p∈X.pn++pins,p.1≠it):Inv X pins σ H {s with heap:=h',toks:=t'}:=by
 have d:∀b u,H b=some u->b≠it:=λb u e z=>by rw[z,hn]at e;cases e
 refine I.step (g':=s.gens) (d':=s.drawn) (ch:=[it]) (λb hb=>?_) (λb o _ _ a e _=>k b o (λz=>a (by simp[z])) e) (λb o _ _ a e _=>⟨o.slots,k b o (λz=>a (by simp[z])) e⟩) (λ_ _ _ _ n=>n)
  (λb o a e=>⟨o,k b o (λz=>a (by simp[z])) e⟩) (λ_ _ e=>e) (λ_ _ _ e=>e) (λb ps e=>⟨#[],by rw[e];simp⟩) (λm hm=>?_) (λb u e=>?_) I.bare
 ·have e:b=it:=by simpa using hb
  subst e;exact⟨h1,f,h2,h3⟩
 ·obtain⟨o,h,g,i,r⟩:=hm;exact⟨o,h,g,k _ o (z09 f) i,r⟩
 ·refine(I.hok b u e).stay (λc v a q=>k c v ?_ q) (λ_ q=>q) λ_ _ q=>q;rcases a with z|z
  ·rw[z];exact d b u e
  ·exact d c _ z
theorem Inv.tok (I:Inv X pins σ H s)(t:Nat):Inv X pins σ H {s with toks:=t}:=I.un (h':=s.heap) (t':=t) Un.refl I.hok
theorem Inv.kept {t':Nat}(I:Inv X pins σ H s)(k:∀b u,s.heap.get? b=some u->h'.get? b=some u):Inv X pins σ H {s with heap:=h',toks:=t'}:=I.un (Un.kept k) (I.hok.kept k)
theorem Inv.laid {a:Addr}{o:HO}{t':Nat}(I:Inv X pins σ H s)(k:∀b u,s.heap.get? b=some u->h'.get? b=some u)(c:s.heap.objs.size<=a)(new:zE X.prog X.w (upd H a o) h' a o):
  Inv X pins σ (upd H a o) {s with heap:=h',toks:=t'}:=I.un (Un.laid k c (I.hok.fresh c)) (I.hok.laid k c new)
theorem Inv.write {x e:Addr}{o:HO}{t':Nat}(I:Inv X pins σ H s)(c:Mut (H x))(he:e=x\/H e=some (.own x))(k:∀b u,b≠e->s.heap.get? b=some u->h'.get? b=some u)(a:∃u,h'.get? e=some u)
  (new:zE X.prog X.w (upd H x o) h' x o):Inv X pins σ (upd H x o) {s with heap:=h',toks:=t'}:=I.un (Un.write c he k a) (I.hok.write c he k a new)
theorem Inv.pins_of {a:List (Addr×Obj)}(I:Inv X pins σ H s)(h:∀p∈a,s.heap.get? p.1=some p.2/\H p.1=none/\p.1≠X.env.locals/\p.1∉X.fs/\∀v,p.2.data≠.cell v):Inv X a σ H s:=
 ⟨I.ok,I.os,I.bare,I.base,I.loc,I.cell,I.free,I.freeC,λp b=>(z31.mp b).elim (λz=>I.pin p (z89 _ z)) (h p),I.hok,I.len⟩
theorem oN {N:List Str}(c:N.Nodup){i j:Nat}{x:Str}(a:N[i]?=some x)(b:N[j]?=some x):i=j:=by
 obtain⟨h1,e1⟩:=zX5.mp a;obtain⟨h2,d⟩:=zX5.mp b;exact(List.getElem_inj c).mp (e1.trans d.symm)
theorem qj {M:Model}{A:Around}{E:Value->Shared->Prop}{i:Nat}{x:Str}{v:V}{u:Value}{Q:Unit->Shared->Prop}(I:Inv X pins σ H s)(hN:X.N.Nodup)(hi:X.N[i]?=some x)(l:Loc X.env.scope x)(r:RelV v u)
  (h:∀s',Inv X pins (σ.set i (some v)) H s'->(∃a,Heap.SameBut a s.heap s'.heap/\(a=X.env.locals\/X.env.cells.lookup x=some a))->Q () s') (hf:X.fn x=true\/X.env.scope.names.lookup x=some .local:=by first|exact .inl rfl|exact .inr rfl|assumption):wpAny M A (storeName X.env x u) Q E s:=by
 obtain⟨m,hn,hl⟩:=id I.loc;have O:(X.env.scope.kind == .class||(X.env.scope.kind == .module&&X.env.locals != X.env.globals))=false:=by rw[I.ok.kind];rfl
 have C:i<σ.length:=by rw[I.len];exact(zX5.mp hi).1
 have cne:=I.cne;have tracked:∀{a:Addr} {h':Heap},(∃o,s.heap.get? a=some o/\H a=none)->Heap.SameBut a s.heap h'->HOk X.prog X.w H h':=λ{a h'} ha f b ob e=>by
  obtain⟨_,_,t⟩:=ha;refine(I.hok b ob e).stay (λc P g q=>(f.2 c ?_).trans q) (λ_ q=>q) λ_ _ q=>q;rintro rfl;rcases g with rfl|g
  ·rw[t]at e;cases e
  ·rw[t]at g;cases g
 rcases l with hk|hk
 ·refine wpAny_storeName_local hk hn (λh' U f=>?_) O;obtain⟨oL,_,_,T,_⟩:=id hn;refine h _ ⟨I.ok,I.os,I.bare,⟨λb o e n hb l=>?_,λb o e n hb l=>?_,I.base.free,λb o e l=>?_,I.base.tups,I.base.frzs,I.base.tbls⟩,⟨_,U,λj y W e1 B Z=>?_⟩,λy c e=>?_,I.free,I.freeC,λp R=>?_,tracked ⟨oL,T,I.free⟩ f,by simpa using I.len⟩ ⟨_,f,.inl rfl⟩
  ·exact(f.2 b (zZ6 (zX4 (zY4 e) I.ok.above))).trans (I.base.keep b o e n hb l)
  ·obtain⟨sl,e1⟩:=I.base.slot b o e n hb l;exact⟨sl,(f.2 b (zZ6 (zX4 (zY4 e) I.ok.above))).trans e1⟩
  ·obtain⟨o',e1⟩:=I.base.there b o e l;exact⟨o',(f.2 b (zZ6 (zX4 (zY4 e) I.ok.above))).trans e1⟩
  ·by_cases F:j=i
   ·subst F;rw[hi]at e1;cases e1;rw[z75 C]at B;cases B;exact⟨u,r,.inl ⟨hk,by simp⟩⟩
   ·rw[z33 (z09 F)]at B;obtain⟨S,Y,q⟩:=hl j y W e1 B Z;refine⟨S,Y,?_⟩;rcases q with⟨k,e⟩|⟨k,c,e,z⟩
    ·refine .inl ⟨k,?_⟩;have:y≠x:=λe=>F (oN hN e1 (e▸hi));simp[this,e]
    ·exact .inr ⟨k,c,e,z.sameBut f (cne y c e)⟩
  ·obtain⟨P,z⟩:=I.cell y c e;exact⟨P,z.sameBut f (cne y c e)⟩
  ·obtain⟨e,n,ne,nf,d⟩:=I.pin p R;exact⟨(f.2 p.1 ne).trans e,n,ne,nf,d⟩
 ·have D:X.fn x=true:=by
   rcases hf with z|z
   ·exact z
   ·rw[z]at hk;cases hk
  obtain⟨c,g⟩:=I.ok.has x (.inl hk);obtain⟨P,z⟩:=I.cell x c g;refine wpAny_storeName_cell I.ok.kind hk g z (λh' J f=>?_);obtain⟨oc,L,K⟩:=id z;refine h {s with heap:=h'} ⟨I.ok,I.os,I.bare,⟨λb o e n hb l=>?_,λb o e n hb l=>?_,I.base.free,λb o e l=>?_,I.base.tups,I.base.frzs,I.base.tbls⟩,⟨m,hn.sameBut f (z09 (cne x c g)),λj y W e1 B Z=>?_⟩,λy c' e=>?_,I.free,I.freeC,λp R=>?_,tracked ⟨oc,L,I.freeC x c g⟩ f,by simpa using I.len⟩ ⟨c,f,.inr g⟩
  ·exact(f.2 b (zZ6 (zX4 (zY4 e) (I.ok.cab x c D g)))).trans (I.base.keep b o e n hb l)
  ·obtain⟨sl,e1⟩:=I.base.slot b o e n hb l;exact⟨sl,(f.2 b (zZ6 (zX4 (zY4 e) (I.ok.cab x c D g)))).trans e1⟩
  ·obtain⟨o',e1⟩:=I.base.there b o e l;exact⟨o',(f.2 b (zZ6 (zX4 (zY4 e) (I.ok.cab x c D g)))).trans e1⟩
  ·by_cases F:j=i
   ·subst F;rw[hi]at e1;cases e1;rw[z75 C]at B;cases B;exact⟨u,r,.inr ⟨.inl hk,c,g,J⟩⟩
   ·rw[z33 (z09 F)]at B;obtain⟨S,Y,q⟩:=hl j y W e1 B Z;refine⟨S,Y,?_⟩;rcases q with q|⟨k,c',e,z'⟩
    ·exact .inl q
    ·refine .inr ⟨k,c',e,z'.sameBut f ?_⟩;rintro rfl;exact F (oN hN e1 (I.ok.inj _ _ _ e g▸hi))
  ·by_cases G:c'=c
   ·subst G;exact⟨_,J⟩
   ·obtain⟨w2,z2⟩:=I.cell y c' e;exact⟨w2,z2.sameBut f G⟩
  ·obtain⟨e,n,ne,nf,d⟩:=I.pin p R;refine⟨(f.2 p.1 ?_).trans e,n,ne,nf,d⟩;intro q;rw[q,L]at e;have q':oc=p.2:=z00 e;exact d P (by rw[<-q'];exact K)
theorem nH {M:Model}{A:Around}{E:Value->Shared->Prop}{i:Nat}{x:Str}{v:V}{u:Value}{Q:Unit->Shared->Prop}(I:Inv X pins σ H s)(a:X.N.Nodup)(hi:X.N[i]?=some x)(b:Loc X.env.scope x)(r:RelV v u)
  (h:∀s',Inv X pins (σ.set i (some v)) H s'->Q () s') (hf:X.fn x=true\/X.env.scope.names.lookup x=some .local:=by first|exact .inl rfl|exact .inr rfl|assumption):wpAny M A (storeName X.env x u) Q E s:=
 qj I a hi b r (λs' c _=>h s' c) hf
theorem Inv.call' {s':Shared}{ch:List Addr}(I:Inv X pins σ H s)(d:s'.os=s.os)(u:Un (frs X.stack) ch H H' s.heap s'.heap)(hok:HOk X.prog X.w H' s'.heap)(hg:AllBare s'.gens)
  (a:∀b∈ch,(b∈X.ex\/X.s₀.heap.objs.size<=b)/\b≠X.env.locals/\(∀x c,X.env.cells.lookup x=some c->c≠b)/\∀p∈X.pn++pins,p.1≠b):Inv X pins σ H' s':=by
 obtain⟨h',g',d',t',o'⟩:=s';have e:o'=s.os:=d;subst e;exact I.call (g':=g') (t':=t') (d':=d') u hok hg a
end
abbrev XK :=Value->Option Addr->Hp->Prop
abbrev St :=List (Option V)
abbrev VK :=V->Hp->Prop
abbrev TE :=St->Hp->VK->Prop
abbrev TT :=St->Hp->(Bool->Hp->Prop)->Prop
abbrev TA :=St->Hp->(List V->Hp->Prop)->Prop
structure Ends where
 nx:St->Hp->Prop
 rt:VK
 bk:St->Hp->Prop:=λ_ _=>False
 ct:St->Hp->Prop:=λ_ _=>False
abbrev TS :=Ends->St->Hp->Prop
def EP (X:Cx)(pins:List (Addr×Obj))(σ:St)(Q:VK)(u:Value)(s':Shared):Prop:=∃v H',Inv X pins σ H' s'/\RelV v u/\Q v H'
def TP (X:Cx)(pins:List (Addr×Obj))(σ:St)(Q:Bool->Hp->Prop)(b:Bool)(s':Shared):Prop:=∃H',Inv X pins σ H' s'/\Q b H'
def AP (X:Cx)(pins:List (Addr×Obj))(σ:St)(Q:List V->Hp->Prop)(us:List Value)(s':Shared):Prop:=∃vs H',Inv X pins σ H' s'/\Vals vs us/\Q vs H'
def SP (X:Cx)(pins:List (Addr×Obj))(D:Ends)(f:Flow)(s':Shared):Prop:=
 match f with
 |.next=>∃a H',Inv X pins a H' s'/\D.nx a H'
 |.brk=>∃a H',Inv X pins a H' s'/\D.bk a H'
 |.cont=>∃a H',Inv X pins a H' s'/\D.ct a H'
 |.ret u=>∃v a H',Inv X pins a H' s'/\RelV v u/\D.rt v H'
def PE (X:Cx)(e:Expr)(t:TE):Prop:=
 ∀(pins:List (Addr×Obj)) (s:Shared) (σ:St) (H:Hp) (Q:VK),Inv X pins σ H s->t σ H Q->wpAny (model X.prog X.w) X.A (eval e X.env) (EP X pins σ Q) X.xe s
def PT (X:Cx)(e:Expr)(t:TT):Prop:=
 ∀(pins:List (Addr×Obj)) (s:Shared) (σ:St) (H:Hp) (Q:Bool->Hp->Prop),Inv X pins σ H s->t σ H Q->wpAny (model X.prog X.w) X.A (isTrue e X.env (eval e X.env)) (TP X pins σ Q) X.xe s
def PW (X:Cx)(e:Expr)(t:TT):Prop:=
 ∀(whole:Sem Value) (pins:List (Addr×Obj)) (s:Shared) (σ:St) (H:Hp) (Q:Bool->Hp->Prop),Inv X pins σ H s->t σ H Q->wpAny (model X.prog X.w) X.A (isTrue e X.env whole) (TP X pins σ Q) X.xe s
theorem PW.pt {X:Cx}{e:Expr}{t:TT}(h:PW X e t):PT X e t:=h _
def PA (X:Cx)(a:List Expr)(t:TA):Prop:=
 ∀(pos:Pos) (pins:List (Addr×Obj)) (s:Shared) (σ:St) (H:Hp) (Q:List V->Hp->Prop),Inv X pins σ H s->t σ H Q->wpAny (model X.prog X.w) X.A (spliced (backTo pos (starEach a X.env))) (AP X pins σ Q) X.xe s
def PS (X:Cx)(st:Stmt)(t:TS):Prop:=
 ∀(pins:List (Addr×Obj)) (s:Shared) (σ:St) (H:Hp) (D:Ends),Inv X pins σ H s->t D σ H->wpAny (model X.prog X.w) X.A (exec st X.env) (SP X pins D) X.xe s
def PSs (X:Cx)(st:List Stmt)(t:TS):Prop:=
 ∀(pins:List (Addr×Obj)) (s:Shared) (σ:St) (H:Hp) (D:Ends),Inv X pins σ H s->t D σ H->wpAny (model X.prog X.w) X.A (execs st X.env) (SP X pins D) X.xe s
theorem thn {α:Type}{t:Sem α}{Q b:α->Shared->Prop}{M:Model}{A:Around}{E:Value->Shared->Prop}{s:Shared}(h:wpAny M A t Q E s)(c:∀a s,Q a s->b a s):wpAny M A t b E s:=z29 h c λ_ _ x=>x
section
variable {X:Cx}
def zz7 (i:Nat):TE:=λσ H Q=>∃v,σ[i]?=some (some v)/\Q v H
def tC (v:V):TE:=λ_ H Q=>Q v H
theorem xg {i:Nat}{x:Str}{pos:Pos}(g:X.N[i]?=some x)(f:Vis X.env.scope x)(hd:(x == ("__debug__":Str))=false:=by decide)(b:(x == ("__classdict__":Str))=false:=by decide):PE X (.Name x pos) (zz7 i):=by
 intro pins s σ H Q I h;obtain⟨v,e,h⟩:=h;obtain⟨m,hn,j⟩:=I.loc;obtain⟨u,r,l⟩:=j i x v g e f;have fin:EP X pins σ Q u s:=⟨v,H,I,r,h⟩;rcases l with⟨hk,hm⟩|⟨hk,c,d,a⟩
 ·exact wpAny_Name (wpAny_loadName_local I.ok.kind hk hn hm fin) hd
 ·rcases hk with hk|hk
  ·exact wpAny_Name (wpAny_loadName_cell I.ok.kind hk d a fin) hd
  ·exact wpAny_Name (wpAny_loadName_free I.ok.kind hk d a fin b) hd
theorem zv {i j pos}:PE X (.Constant (.int i) j pos) (tC (.int i)):=λ_ _ _ H _ I h=>wpAny_Constant_int ⟨.int i,H,I.tok _,⟨_,rfl⟩,h⟩
theorem zQ6 {b j pos}:PE X (.Constant (.bool b) j pos) (tC (.bl b)):=λ_ _ _ H _ I h=>Constant_bool ⟨.bl b,H,I,rfl,h⟩
theorem cZ {j pos}:PE X (.Constant .none j pos) (tC .non):=λ_ _ _ H _ I h=>Constant_none ⟨.non,H,I,rfl,h⟩
theorem zH9 {x j pos}:PE X (.Constant (.str x) j pos) (tC (.str x)):=λ_ _ _ H _ I h=>Calls.Constant_str ⟨.str x,H,I.tok _,⟨_,rfl⟩,h⟩
def Gl (X:Cx)(x:Str):Prop:=X.env.kindOf x=some .globalImplicit
theorem tO {E:Value->Shared->Prop}{pins:List (Addr×Obj)}{s:Shared}{σ:St}{H:Hp}{x:Str}{u:Value}{pos:Pos}{Q:Value->Shared->Prop}(I:Inv X pins σ H s)(hg:Gl X x)(hm:X.mg x=some u)(h:Q u s)
  (hd:(x == ("__debug__":Str))=false:=by decide):wpAny (model X.prog X.w) X.A (eval (.Name x pos) X.env) Q E s:=
 Calls.Name_function_global I.ok.kind hg (Calls.loadGlobal_global (by rw[I.ok.glob];exact I.mod.glob.keeps I.bk) hm h) hd
theorem yO {E:Value->Shared->Prop}{pins:List (Addr×Obj)}{s:Shared}{σ:St}{H:Hp}{x:Str}{u:Value}{pos:Pos}{Q:Value->Shared->Prop}(I:Inv X pins σ H s)(hg:Gl X x)(hm:X.mg x=none)(a:bootBuiltins x=some u)(h:Q u s)
  (hn:x≠"__name__":=by decide) (hd:(x == ("__debug__":Str))=false:=by decide):wpAny (model X.prog X.w) X.A (eval (.Name x pos) X.env) Q E s:=by
 obtain⟨mb,h1,h2⟩:=I.mod.blt;exact Calls.Name_function_global I.ok.kind hg (Calls.loadGlobal_builtin (by rw[I.ok.glob];exact I.mod.glob.keeps I.bk) hm (by rw[I.ok.blt];exact h1.keeps I.bk) ((h2 x hn).trans a) h) hd
theorem jB {x:Str}{v:V}{u:Value}{pos:Pos}(hg:Gl X x)(hm:X.mg x=some u)(r:RelV v u)(hd:(x == ("__debug__":Str))=false:=by decide):PE X (.Name x pos) (tC v):=
 λ_ _ _ H _ I h=>tO I hg hm ⟨v,H,I,r,h⟩ hd
theorem zo5 {x:Str}{v:V}{u:Value}{pos:Pos}(hg:Gl X x)(hm:X.mg x=none)(a:bootBuiltins x=some u)(r:RelV v u)(hn:x≠"__name__":=by decide)(hd:(x == ("__debug__":Str))=false:=by decide):PE X (.Name x pos) (tC v):=
 λ_ _ _ H _ I h=>yO I hg hm a ⟨v,H,I,r,h⟩ hn hd
variable {a b:Expr}{ta tb:TE}{pos:Pos}
def tB (t:TE):TT:=λσ H Q=>t σ H λx H1=>∃c,x=.bl c/\Q c H1
theorem zz5 {e:Expr}{t:TE}(h:PE X e t)(he:∀whole,isTrue e X.env whole=(do let v <-whole;standAt e.pos;holding [v] (truthy v)):=by intro _;rfl):PT X e (tB t):=by
 intro pins s σ H Q I hw;refine isTrue_plain (thn (h pins s σ H _ I hw) λv s1 c=>?_) (he _);obtain⟨x,H1,i,f,g⟩:=c;obtain⟨d,rfl,q⟩:=g;cases f;exact z28 ⟨H1,i,q⟩
variable {tA tB':TT}{rest:List Expr}
def zV1 (t u:TT):TT:=λσ H Q=>t σ H λc H1=>if c=true then u σ H1 Q else Q false H1
def tOr (t u:TT):TT:=λσ H Q=>t σ H λc H1=>if c=true then Q true H1 else u σ H1 Q
def zV5 (t:TT):TT:=λσ H Q=>t σ H λc H1=>Q (!c) H1
theorem jr (ha:PT X a tA):PW X (.BoolOp .And [a] pos) tA:=by
 intro d pins s σ H Q I h;refine isTrue_and (thn (ha pins s σ H Q I h) λc s1 e=>?_);cases c with
 |true=>exact isTrue_and_nil e
 |false=>exact e
theorem zA5 (ha:PT X a tA):PW X (.BoolOp .Or [a] pos) tA:=by
 intro d pins s σ H Q I h;refine isTrue_or (thn (ha pins s σ H Q I h) λc s1 e=>?_);cases c with
 |false=>exact isTrue_or_nil e
 |true=>exact e
theorem bK (ha:PT X a tA)(hb:PW X (.BoolOp .And (b::rest) pos) tB'):PW X (.BoolOp .And (a::b::rest) pos) (zV1 tA tB'):=by
 intro g pins s σ H Q I h;refine isTrue_and (thn (ha pins s σ H _ I h) λc s1 d=>?_);obtain⟨H1,f,e⟩:=d;cases c with
 |true=>exact hb g pins s1 σ H1 Q f e
 |false=>exact⟨H1,f,e⟩
theorem zK2 (ha:PT X a tA)(hb:PW X (.BoolOp .Or (b::rest) pos) tB'):PW X (.BoolOp .Or (a::b::rest) pos) (tOr tA tB'):=by
 intro g pins s σ H Q I h;refine isTrue_or (thn (ha pins s σ H _ I h) λc s1 d=>?_);obtain⟨H1,f,e⟩:=d;cases c with
 |true=>exact⟨H1,f,e⟩
 |false=>exact hb g pins s1 σ H1 Q f e
theorem zx6 (ha:PT X a tA):PT X (.UnaryOp .Not a pos) (zV5 tA):=by
 intro pins s σ H Q I h;exact isTrue_not (ha pins s σ H (λc H1=>Q (!c) H1) I h)
def zM4 (ta tb:TE):TE:=λσ H Q=>ta σ H λx H1=>∃c,x=.bl c/\if c=true then tb σ H1 Q else Q (.bl false) H1
def zW2 (ta tb:TE):TE:=λσ H Q=>ta σ H λx H1=>∃c,x=.bl c/\if c=true then Q (.bl true) H1 else tb σ H1 Q
def zK7 (ta:TE):TE:=λσ H Q=>ta σ H λx H1=>∃c,x=.bl c/\Q (.bl (!c)) H1
theorem zI0 {op}{t:TE}(h:PE X a t):PE X (.BoolOp op [a] pos) t:=λpins s σ H Q I hw=>BoolOp_one (h pins s σ H Q I hw)
theorem zH0 (ha:PE X a ta)(hb:PE X (.BoolOp .And (b::rest) pos) tb):PE X (.BoolOp .And (a::b::rest) pos) (zM4 ta tb):=by
 intro pins s σ H Q I h;refine BoolOp_and (thn (ha pins s σ H _ I h) λv s1 d=>?_);obtain⟨x,H1,f,g,e⟩:=d;obtain⟨c,rfl,e⟩:=e;cases g;refine z28 ?_;cases c with
 |true=>exact hb pins s1 σ H1 Q f e
 |false=>exact⟨.bl false,H1,f,rfl,e⟩
theorem zL2 (ha:PE X a ta)(hb:PE X (.BoolOp .Or (b::rest) pos) tb):PE X (.BoolOp .Or (a::b::rest) pos) (zW2 ta tb):=by
 intro pins s σ H Q I h;refine BoolOp_or (thn (ha pins s σ H _ I h) λv s1 d=>?_);obtain⟨x,H1,f,g,e⟩:=d;obtain⟨c,rfl,e⟩:=e;cases g;refine z28 ?_;cases c with
 |false=>exact hb pins s1 σ H1 Q f e
 |true=>exact⟨.bl true,H1,f,rfl,e⟩
theorem zE9 (ha:PE X a ta):PE X (.UnaryOp .Not a pos) (zK7 ta):=by
 intro pins s σ H Q I h;refine UnaryOp_ (thn (ha pins s σ H _ I h) λv s1 d=>?_);obtain⟨x,H1,g,f,e⟩:=d;obtain⟨c,rfl,e⟩:=e;cases f;exact not_of (z28 ⟨.bl (!c),H1,g,rfl,e⟩)
def tIf (t:TT)(ta tb:TE):TE:=λσ H Q=>t σ H λc H1=>if c=true then ta σ H1 Q else tb σ H1 Q
theorem cE {c:Expr}(i:PT X c tA)(ha:PE X a ta)(hb:PE X b tb):PE X (.IfExp c a b pos) (tIf tA ta tb):=by
 intro pins s σ H Q I h;refine wpAny_IfExp (thn (i pins s σ H _ I h) λd s1 e=>?_);obtain⟨H1,g,f⟩:=e;cases d with
 |true=>exact ha pins s1 σ H1 Q g f
 |false=>exact hb pins s1 σ H1 Q g f
end
def SqL (K:PySem.W.Frag)(H:Hp)(a:Addr)(xs:List V):Prop:=
 Rd H a (.lst xs)\/
  ∃(o:Obj) (b:Array Value) (n:Nat),K.lookup a=some o/\o.cls=.type "list"/\o.dict=none/\o.data=.seq b n/\b.size<=sizeLine/\Vals xs b.toList
def SqT (K:PySem.W.Frag)(H:Hp)(a:Addr)(xs:List V):Prop:=
 Rd H a (.tup xs)\/
  ∃(o:Obj) (b:Array Value) (n:Nat),K.lookup a=some o/\o.cls=.type "tuple"/\o.data=.seq b n/\b.size<=sizeLine/\Vals xs b.toList
def zU6 :Value->Option V
 |.none=>some .non
 |.bool b=>some (.bl b)
 |.int i _=>some (.int i)
 |.str x _=>some (.str x)
 |.bytes b _=>some (.byt b)
 |.float b _=>some (.flt b)
 |.ref a=>some (.ref a)
 |.type n=>some (.ty n)
 |_=>none
theorem RelV.abs {x:V}{u:Value}(r:RelV x u):zU6 u=some x:=by
 cases x with
 |non=>cases r;rfl
 |bl _=>cases r;rfl
 |int _=>obtain⟨t,rfl⟩:=r;rfl
 |str _=>obtain⟨t,rfl⟩:=r;rfl
 |byt _=>obtain⟨t,rfl⟩:=r;rfl
 |flt _=>obtain⟨t,rfl⟩:=r;rfl
 |ref _=>cases r;rfl
 |ty _=>cases r;rfl
theorem RelV.inj {x y:V}{u:Value}(r:RelV x u)(q:RelV y u):x=y:=z00 (r.abs.symm.trans q.abs)
theorem Vals.inj {xs ys:List V}{us:List Value}(h:Vals xs us)(k:Vals ys us):xs=ys:=by
 induction h generalizing ys with
 |nil=>cases k;rfl
 |cons r _ a=>cases k with
  |cons b t'=>rw[r.inj b,a t']
section
variable {X:Cx}{pins:List (Addr×Obj)}{σ:St}{H:Hp}{s:Shared}{a:Addr}{xs ys:List V}
theorem SqL.of {K:PySem.W.Frag}(h:H a=some (.lst xs)):SqL K H a xs:=.inl (.inl h)
theorem SqT.of {K:PySem.W.Frag}(h:H a=some (.tup xs)):SqT K H a xs:=.inl (.inl h)
theorem Inv.list (I:Inv X pins σ H s)(h:SqL X.K H a xs):∃b:List Value,Vals xs b/\PlainL s.heap a b.toArray/\xs.length<=sizeLine:=by
 rcases h with h|⟨o,b,n,hk,c,hd,d,hz,r⟩
 ·obtain⟨z,b,n,r,e⟩:=h.ok I.hok;exact⟨b,r,⟨_,n,e,rfl,rfl,rfl⟩,z⟩
 ·refine⟨b.toList,r,⟨o,n,I.kIn a o hk,c,hd,by simpa using d⟩,?_⟩;have e:=r.length;simp only[yc0]at e;exact zY1 (zZ3 e) hz
theorem Inv.tuple (I:Inv X pins σ H s)(h:SqT X.K H a xs):∃b:List Value,Vals xs b/\IsTup s.heap a b.toArray/\xs.length<=sizeLine:=by
 rcases h with h|⟨o,b,n,hk,c,d,hz,r⟩
 ·obtain⟨z,b,r,p⟩:=h.ok I.hok;exact⟨b,r,p,z⟩
 ·refine⟨b.toList,r,⟨o,I.kIn a o hk,c,n,by simpa using d⟩,?_⟩;have e:=r.length;simp only[yc0]at e;exact zY1 (zZ3 e) hz
theorem Inv.list_inj (I:Inv X pins σ H s)(h:SqL X.K H a xs)(h':SqL X.K H a ys):xs=ys:=by
 obtain⟨b,r,⟨o,n,e,_,_,d⟩,_⟩:=I.list h;obtain⟨its',g,⟨o',i,c,_,_,d'⟩,_⟩:=I.list h';rw[e]at c;cases c;rw[d]at d';injection d' with f _;have:b=its':=by simpa using congrArg Array.toList f
 subst this;exact r.inj g
theorem Inv.tuple_inj (I:Inv X pins σ H s)(h:SqT X.K H a xs)(h':SqT X.K H a ys):xs=ys:=by
 obtain⟨b,r,⟨o,e,_,n,d⟩,_⟩:=I.tuple h;obtain⟨its',g,⟨o',c,_,i,d'⟩,_⟩:=I.tuple h';rw[e]at c;cases c;rw[d]at d';injection d' with f _;have:b=its':=by simpa using congrArg Array.toList f
 subst this;exact r.inj g
end
abbrev Cx.wish (X:Cx)(E:Value->Shared->Prop):Cx:={X with xe:=E}
abbrev Cx.nox (X:Cx):Cx:=X.wish λ_ _=>False
theorem Cx.Ok.wish {X:Cx}(ok:X.Ok)(E:Value->Shared->Prop):(X.wish E).Ok:=
 ⟨ok.mod,ok.kind,ok.glob,ok.blt,ok.above,ok.inj,ok.has,ok.cab,ok.hd,ok.frames,ok.stk,ok.exf,ok.bs,ok.bsz,ok.noex,ok.exfs,ok.funs,ok.frf⟩
theorem Cx.Ok.unwish {X:Cx}{E:Value->Shared->Prop}(ok:(X.wish E).Ok):X.Ok:=
 ⟨ok.mod,ok.kind,ok.glob,ok.blt,ok.above,ok.inj,ok.has,ok.cab,ok.hd,ok.frames,ok.stk,ok.exf,ok.bs,ok.bsz,ok.noex,ok.exfs,ok.funs,ok.frf⟩
section
variable {X:Cx}{pins:List (Addr×Obj)}{σ:St}{H:Hp}{s:Shared}{E:Value->Shared->Prop}
theorem Inv.wish (I:Inv X pins σ H s)(E:Value->Shared->Prop):Inv (X.wish E) pins σ H s:=⟨I.ok.wish E,I.os,I.bare,I.base,I.loc,I.cell,I.free,I.freeC,I.pin,I.hok,I.len⟩
theorem Inv.unwish (I:Inv (X.wish E) pins σ H s):Inv X pins σ H s:=⟨I.ok.unwish,I.os,I.bare,I.base,I.loc,I.cell,I.free,I.freeC,I.pin,I.hok,I.len⟩
theorem SP.unwish {D:Ends}{f:Flow}{s':Shared}(h:SP (X.wish E) pins D f s'):SP X pins D f s':=by
 cases f with
 |next=>obtain⟨a,H',I,q⟩:=h;exact⟨a,H',I.unwish,q⟩
 |brk=>obtain⟨a,H',I,q⟩:=h;exact⟨a,H',I.unwish,q⟩
 |cont=>obtain⟨a,H',I,q⟩:=h;exact⟨a,H',I.unwish,q⟩
 |ret u=>obtain⟨v,a,H',I,r,q⟩:=h;exact⟨v,a,H',I.unwish,r,q⟩
theorem PSs.nox {st:List Stmt}{t:TS}(h:PSs X.nox st t):PSs X st t:=λpins s σ H D I hw=>
 z29 (h pins s σ H D (I.wish _) hw) (λ_ _ q=>q.unwish) λ_ _ z=>False.elim z
end
section
variable {X:Cx}{st:Stmt}{rest:List Stmt}{t u:TS}{e:Expr}{te:TE}{pos:Pos}
def zO2 :TS:=λD σ H=>D.nx σ H
def zQ0 (t u:TS):TS:=λD σ H=>t {D with nx:=u D} σ H
theorem pG :PSs X [] zO2:=λ_ _ σ H _ I h=>ye7 ⟨σ,H,I,h⟩
theorem zI (h1:PS X st t)(h2:PSs X rest u):PSs X (st::rest) (zQ0 t u):=by
 intro pins s σ H D I h;refine wpAny_execs_cons (thn (h1 pins s σ H {D with nx:=u D} I h) λf s1 q=>?_);cases f with
 |next=>
  obtain⟨a,H',b,q⟩:=q;exact h2 pins s1 a H' D b q
 |ret v=>exact q
 |brk=>exact q
 |cont=>exact q
theorem wo (h1:PS X st t):PSs X [st] t:=by
 intro pins s σ H D I h;refine wpAny_execs_cons (thn (h1 pins s σ H D I h) λf s1 q=>?_);cases f with
 |next=>exact ye7 q
 |ret v=>exact q
 |brk=>exact q
 |cont=>exact q
theorem Inv.quiet {pins:List (Addr×Obj)}{σ:St}{H:Hp}{s:Shared}(I:Inv X pins σ H s):interactive X.env=false:=by simp[interactive,I.ok.kind]
def zQ2 (te:TE):TS:=λD σ H=>te σ H λ_ H1=>D.nx σ H1
theorem jE (he:PE X e te)(b:swapsWith e none pos.line X.env=pure false:=by rfl):PS X (.Expr e pos) (zQ2 te):=by
 intro pins s σ H D I h;exact wpAny_Expr_any (thn (he pins s σ H _ I h) λv s1 a=>by obtain⟨x,H1,d,f,c⟩:=a;exact⟨σ,H1,d,c⟩) I.quiet b
def zT1 (te:TE):TS:=λD σ H=>te σ H D.rt
theorem vw (he:PE X e te):PS X (.Return (some e) pos) (zT1 te):=by
 intro pins s σ H D I h;exact wpAny_Return_some (thn (he pins s σ H _ I h) λv s1 a=>by obtain⟨x,H1,d,b,c⟩:=a;exact⟨x,σ,H1,d,b,c⟩)
def zT0 (c:TT)(t u:TS):TS:=λD σ H=>c σ H λb H1=>if b=true then t D σ H1 else u D σ H1
theorem eN {c:Expr}{a b:List Stmt}{j:TT}(k:PT X c j)(ha:PSs X a t)(hb:PSs X b u):PS X (.If c a b pos) (zT0 j t u):=by
 intro pins s σ H D I h;refine wpAny_If (thn (k pins s σ H _ I h) λd s1 f=>?_);obtain⟨H1,i,g⟩:=f;cases d with
 |true=>exact ha pins s1 σ H1 D i g
 |false=>exact hb pins s1 σ H1 D i g
end
abbrev TG :=V->St->Hp->(St->Hp->Prop)->Prop
abbrev TGs :=List V->St->Hp->(St->Hp->Prop)->Prop
def PG (X:Cx)(target:Expr)(t:TG):Prop:=
 ∀(pins:List (Addr×Obj)) (s:Shared) (σ:St) (H:Hp) (v:V) (u:Value) (Q:St->Hp->Prop),Inv X pins σ H s->RelV v u->t v σ H Q->
  wpAny (model X.prog X.w) X.A (assign target X.env u) (λ_ s'=>∃a H',Inv X pins a H' s'/\Q a H') X.xe s
def PGs (X:Cx)(ts:List Expr)(t:TGs):Prop:=
 ∀(pins:List (Addr×Obj)) (s:Shared) (σ:St) (H:Hp) (vs:List V) (us:List Value) (Q:St->Hp->Prop),Inv X pins σ H s->Vals vs us->t vs σ H Q->
  wpAny (model X.prog X.w) X.A (assignInOrder ((assignEach ts X.env).map (·.2)) us) (λ_ s'=>∃a H',Inv X pins a H' s'/\Q a H') X.xe s
abbrev zF6 :=V->V->V->Hp->(Hp->Prop)->Prop
def zQ9 (X:Cx)(t:zF6):Prop:=
 ∀(pins:List (Addr×Obj)) (s:Shared) (σ:St) (H:Hp) (o i v:V) (b a u:Value) (Q:Hp->Prop),Inv X pins σ H s->RelV o b->RelV i a->RelV v u->t o i v H Q->
  wpAny (model X.prog X.w) X.A (setItem b a u) (λ_ s'=>∃H',Inv X pins σ H' s'/\Q H') X.xe s
section
variable {X:Cx}{pos:Pos}
def sg (i:Nat):TG:=λv σ H Q=>Q (σ.set i (some v)) H
theorem yd {i:Nat}{x:Str}(b:X.N.Nodup)(hi:X.N[i]?=some x)(c:Loc X.env.scope x)(hf:X.fn x=true\/X.env.scope.names.lookup x=some .local:=by first|exact .inl rfl|exact .inr rfl|assumption):PG X (.Name x pos) (sg i):=by
 intro pins s σ H v u Q I r h;exact wpAny_assign_Name (nH I b hi c r (λs' a=>⟨_,H,a,h⟩) hf)
def zE0 :TGs:=λvs σ H Q=>vs=[]/\Q σ H
def iD (t:TG)(u:TGs):TGs:=λvs σ H Q=>∃v r,vs=v::r/\t v σ H λa H'=>u r a H' Q
theorem tT :PGs X [] zE0:=by
 intro pins s σ H vs us Q I r h;obtain⟨e,h⟩:=h;subst e;cases r;exact assignInOrder_nil ⟨σ,H,I,h⟩
theorem wK {e:Expr}{b:List Expr}{t:TG}{u:TGs}(h1:PG X e t)(h2:PGs X b u)
  (f:(assignEach (e::b) X.env).map (·.2)=assign e X.env::(assignEach b X.env).map (·.2):=by rfl):PGs X (e::b) (iD t u):=by
 intro pins s σ H vs us Q I r h;obtain⟨v,j,e1,h⟩:=h;subst e1;cases r with
 |cons r d=>
  rw[f];refine assignInOrder_cons (thn (h1 pins s σ H _ _ _ I r h) λ_ s1 a=>?_);obtain⟨c,H1,g,i⟩:=a;exact h2 pins s1 c H1 _ _ Q g d i
def cA (K:PySem.W.Frag)(n:Nat)(t:TGs):TG:=λv σ H Q=>∃a xs,v=.ref a/\SqT K H a xs/\xs.length=n/\t xs σ H Q
theorem zA7 {c:List Expr}{k:Nat}{t:TGs}{n:Nat}(m:X.calm=true)(h:PGs X c t)
  (hn:(assignEach c X.env).length=n:=by rfl) (d:(assignEach c X.env).findIdx? (·.1)=none:=by rfl):PG X (.Tuple c k pos) (cA X.K n t):=by
 intro pins s σ H v u Q I r hw;obtain⟨a,xs,e1,hq,j,hw⟩:=hw;subst e1;cases r;obtain⟨g,f,p,hz⟩:=I.tuple hq;refine assign_Tuple_tuple (I.ok.hd m) p (by simp[hn,<-j,f.length]) d λh' i=>?_;have l:Inv X pins σ H {s with heap:=h'}:=I.kept (t':=s.toks) λb o e=>i b o (zZ6 (zY4 e)) e;exact h pins _ σ H xs _ Q l (by simpa using f) hw
def zI9 (to ti:TE)(t:zF6):TG:=λv σ H Q=>to σ H λo H1=>ti σ H1 λi b=>t o i v b λa=>Q σ a
theorem kx {o i:Expr}{to ti:TE}{t:zF6}(j:PE X o to)(hi:PE X i ti)(z:zQ9 X t)
  (ha:∀v,assign (.Subscript o i pos) X.env v=(do
   let a <-holding [v] (eval o X.env)
   let b <-holding [v,a] (eval i X.env)
   standAt pos
   holding [v,a,b] (setItem a b v)
   release [v,a,b] []):=by intro _;rfl):PG X (.Subscript o i pos) (zI9 to ti t):=by
 intro pins s σ H v u Q I r h;rw[ha];refine zX1 (z43 (thn (j pins s σ H _ I h) λa s1 e=>?_));obtain⟨x,H1,w,q,f⟩:=e;refine zX1 (z43 (thn (hi pins s1 σ H1 _ w f) λb s2 c=>?_));obtain⟨y,g,l,p,n⟩:=c;refine zX1 (wpAny_standAt (zX1 (z43 (thn (z pins s2 σ g x y v a b u _ l q p r n) λ_ s3 d=>?_))));obtain⟨m,A,k⟩:=d;exact wpAny_release ⟨σ,m,A,k⟩
def zD8 (a:TE)(g:TG):TS:=λD σ H=>a σ H λx H1=>g x σ H1 D.nx
theorem mH {tg e:Expr}{b:TE}{g:TG}(he:PE X e b)(hg:PG X tg g)(c:swapsWithSole [tg] e pos.line X.env=pure false:=by rfl)(hw:swappedStores [tg] e X.env=pure none:=by rfl)
  (h1:(assignEach [tg] X.env).map (·.2)=[assign tg X.env]:=by rfl):PS X (.Assign [tg] e pos) (zD8 b g):=by
 intro pins s σ H D I h;refine wpAny_Assign_stores (thn (he pins s σ H _ I h) λv s1 a=>?_) c hw;obtain⟨x,H1,i,d,f⟩:=a;rw[h1];exact thn (hg pins s1 σ H1 x v _ i d f) λ_ s2 q=>q
theorem wg {i:Nat}{x:Str}{e:Expr}{b:TE}{pos':Pos}(c:X.N.Nodup)(hi:X.N[i]?=some x)(d:Loc X.env.scope x)(he:PE X e b)(f:swapsWith e (some (.Name x pos')) pos.line X.env=pure false:=by rfl)(hf:X.fn x=true\/X.env.scope.names.lookup x=some .local:=by first|exact .inl rfl|exact .inr rfl|assumption):
  PS X (.Assign [.Name x pos'] e pos) (zD8 b (sg i)):=by
 intro pins s σ H D I h;refine wpAny_Assign_Name (thn (he pins s σ H _ I h) λv s1 a=>?_) f;obtain⟨y,H1,k,g,j⟩:=a;exact nH k c hi d g (λs2 l=>⟨_,H1,l,j⟩) hf
end
section
variable {X:Cx}{pos:Pos}
def zH1 (c:TT)(e:TS):TS:=λD σ H=>∃W:Nat->St->Hp->Prop,(∃m,W m σ H)/\∀m σ H,W m σ H->
 c σ H λb H1=>if b=true then ∃N:St->Hp->Prop,(∀a H',N a H'->∃d,d<m/\W d a H')/\e {D with nx:=N,ct:=N,bk:=D.nx} σ H1 else D.nx σ H1
theorem mF {c:Expr}{body:List Stmt}{q:TT}{y:TS}(r:PassesOwn (model X.prog X.w) X.A X.env X.xe)(C:PT X c q)(hb:PSs X body y):PS X (.While c body [] pos) (zH1 q y):=by
 intro pins s σ H D I h;obtain⟨W,⟨m0,E⟩,turn⟩:=h;refine wpAny_While (codeAny_whileLoop (λn s'=>∃g H',Inv X pins g H' s'/\W n g H') ?_ m0 ⟨σ,H,I,E⟩);rintro n s1 ⟨d,H1,B,z⟩;refine z82 r (thn (C pins s1 d H1 _ B (turn n d H1 z)) λb s2 e=>?_);obtain⟨t,u,k⟩:=e;cases b with
 |true=>
  obtain⟨N,x,k⟩:=k;rw[if_pos rfl];refine z82 r (thn (hb pins s2 d t _ u k) λf s3 j=>?_);cases f with
  |next=>
   obtain⟨a,i,p,o⟩:=j;obtain⟨m,hm,l⟩:=x a i o;exact⟨m,hm,a,i,p,l⟩
  |cont=>
   obtain⟨a,i,p,o⟩:=j;obtain⟨m,hm,l⟩:=x a i o;exact⟨m,hm,a,i,p,l⟩
  |brk=>exact j
  |ret v=>exact j
 |false=>
  rw[if_neg zZ8];exact ye7 ⟨d,t,u,k⟩
end
structure It where
 go:Nat->Hp->Prop
 yld:Nat->Hp->V->Hp->Prop
 stop:Nat->Hp->Prop
def yZ (X:Cx)(pins:List (Addr×Obj))(H:Hp)(b:Addr):Prop:=
 H b=none/\b≠X.env.locals/\b∉X.fs/\(b∈X.ex\/X.s₀.heap.objs.size<=b)/\(∀x c,X.env.cells.lookup x=some c->c≠b)/\∀p∈X.pn++pins,p.1≠b
theorem Inv.fpOk {X:Cx}{pins:List (Addr×Obj)}{σ:St}{H H':Hp}{s:Shared}{b:Addr}(I:Inv X pins σ H s)(hb:s.heap.objs.size<=b)(hn:H' b=none):yZ X pins H' b:=by
 refine⟨hn,z80 (zX4 I.lt hb),I.nofs hb,.inr (zY1 I.sz hb),λx c e z=>?_,λp a z=>?_⟩
 ·obtain⟨v,q⟩:=I.cell x c e;exact absurd (zX4 q.lt (by rw[z];exact hb)) (z26 _)
 ·exact absurd (zX4 (zY4 (I.pin p a).1) (by rw[z];exact hb)) (z26 _)
structure Turn (P:Program)(w:World)(K:PySem.W.Frag)(tg:Expr)(J:It)(fp:List Addr)(it:Addr)(tn:Nat->Heap->Prop):Prop where
 mem:it∈fp
 obj:∀i h,tn i h->∀b∈fp,∃o,h.get? b=some o/\∀v,o.data≠.cell v
 keep:∀i h h',tn i h->(∀b∈fp,∀o,h.get? b=some o->h'.get? b=some o)->tn i h'
 item:∀(X:Cx),X.prog=P->X.w=w->X.K=K->X.calm=true->∀(i:Nat) (pins:List (Addr×Obj)) (s:Shared) (σ:St) (H:Hp) (E:Value->Shared->Prop),Inv X pins σ H s->(∀b∈fp,yZ X pins H b)->tn i s.heap->J.go i H->
  wpAny (model P w) X.A (pyNext (.ref it)) (λr s1=>∃u,r=some u/\
   wpAny (model P w) X.A (letOwnedTupleGo tg (.ref it) u) (λ_ s2=>∃x H',Inv X pins σ H' s2/\RelV x u/\J.yld i H x H'/\tn (i+1) s2.heap/\∀b∈fp,H' b=none) E s1) E s
 done:∀(X:Cx),X.prog=P->X.w=w->X.K=K->X.calm=true->∀(i:Nat) (pins:List (Addr×Obj)) (s:Shared) (σ:St) (H:Hp) (E:Value->Shared->Prop),Inv X pins σ H s->(∀b∈fp,yZ X pins H b)->tn i s.heap->J.stop i H->
  wpAny (model P w) X.A (pyNext (.ref it)) (λr s1=>r=none/\Inv X pins σ H s1) E s
 self:∀(A:Around) (i:Nat) (s:Shared) (Q:Value->Shared->Prop) (E:Value->Shared->Prop),tn i s.heap->Q (.ref it) s->wpAny (model P w) A (pyIter (.ref it)) Q E s
abbrev TI :=St->Hp->(It->Hp->Prop)->Prop
def PIE (X:Cx)(pins:List (Addr×Obj))(σ:St)(tg:Expr)(R:It->Hp->Prop)(a:Value)(s2:Shared):Prop:=
 ∃(it:Addr) (fp:List Addr) (tn:Nat->Heap->Prop) (J:It) (H':Hp),a=.ref it/\Inv X pins σ H' s2/\Turn X.prog X.w X.K tg J fp it tn/\tn 0 s2.heap/\(∀b∈fp,yZ X pins H' b)/\R J H'
def PI (X:Cx)(tg iter:Expr)(a:TI):Prop:=
 ∀(pins:List (Addr×Obj)) (s:Shared) (σ:St) (H:Hp) (R:It->Hp->Prop),Inv X pins σ H s->a σ H R->
  wpAny (model X.prog X.w) X.A (eval iter X.env) (λv s1=>wpAny (model X.prog X.w) X.A (pyIter v) (PIE X pins σ tg R) X.xe s1) X.xe s
theorem rR {M:Model}{A:Around}{E:Value->Shared->Prop}{s:Shared}{tg:Expr}{it:Addr}{u:Value}{o:Obj}{n:String}{vs:Array Value}{Q:Unit->Shared->Prop}(b:s.heap.get? it=some o)(c:o.cls=.type n)(hd:o.data=.fields vs)
  (hn:["enumerate","zip","dict_itemiterator","dict_reverseitemiterator","odict_iterator","itertools.zip_longest","itertools.pairwise"].contains n=false) (a:Q () s):wpAny M A (letOwnedTupleGo tg (.ref it) u) Q E s:=by
 unfold letOwnedTupleGo;cases tg<;>first
  |exact zY6 a
  |(cases u<;>first
    |exact zY6 a
    |(refine zX1 (wpAny_load b ?_)
      rw[c,hd];show wpAny M A (if(["enumerate","zip","dict_itemiterator","dict_reverseitemiterator","odict_iterator","itertools.zip_longest","itertools.pairwise"].contains n&&vs[0]? == some (rawInt _))=true then _ else _) Q E s;rw[if_neg (by intro h;rw[hn,ya3]at h;cases h)];exact zY6 a))
def Itl (K:PySem.W.Frag)(a:Addr):It:=
 ⟨λi H=>∃xs x,SqL K H a xs/\xs[i]?=some x,λi H x H'=>H'=H/\∀xs,SqL K H a xs->xs[i]?=some x,λi H=>∃xs,SqL K H a xs/\xs.length<=i⟩
def Itt (K:PySem.W.Frag)(a:Addr):It:=
 ⟨λi H=>∃xs x,SqT K H a xs/\xs[i]?=some x,λi H x H'=>H'=H/\∀xs,SqT K H a xs->xs[i]?=some x,λi H=>∃xs,SqT K H a xs/\xs.length<=i⟩
def Itr (lo:Int)(n:Nat):It:=⟨λi _=>i<n,λi H x H'=>H'=H/\x=.int (lo+i),λi _=>n<=i⟩
theorem fe {P:Program}{w:World}{K:PySem.W.Frag}{tg:Expr}(a it:Addr):Turn P w K tg (Itl K a) [it] it (λi h=>h.IsListIter it a i) where
 mem:=by simp
 obj:=λi h st b hb=>by
  have e:b=it:=by simpa using hb
  subst e;obtain⟨o,e,c,d⟩:=st;exact⟨o,e,λv z=>by rw[d]at z;cases z⟩
 keep:=λi h h' st k=>st.at λo e=>k it (by simp) o e
 item:=by
  intro X r hw l t i pins s σ H E I hf st hg;subst r hw l;obtain⟨xs,x,hq,g⟩:=hg;obtain⟨m,j,p,hz⟩:=I.list hq;obtain⟨u,B,y⟩:=j.get g;obtain⟨f0,f1,f2,n,f4,q⟩:=hf it (by simp);refine wpAny_pyNext_list_item st p.isList (x:=u) (by simpa using B) λh' f C=>?_;have F:Inv X pins σ H {s with heap:=h'}:=I.turned (t':=s.toks) (λb o hb e=>(C.2 b hb).trans e) f0 f1 n f4 q;obtain⟨o,e,c,d⟩:=id f;exact⟨u,rfl,rR (s:={s with heap:=h'}) e c d (by decide) ⟨x,H,F,y,⟨rfl,λys hy=>by rw[I.list_inj hy hq];exact g⟩,f,λb hb=>(hf b hb).1⟩⟩
 done:=by
  intro X r hw l t i pins s σ H E I hf st hg;subst r hw l;obtain⟨xs,hq,g⟩:=hg;obtain⟨m,j,p,hz⟩:=I.list hq;obtain⟨f0,f1,f2,n,f4,q⟩:=hf it (by simp);have A:=j.length;exact wpAny_pyNext_list_end (I.ok.hd t) st p.isList (by simp;exact zY1 (zZ3 A.symm) g) λh' D=>⟨rfl,I.turned (t':=s.toks) (λb o hb e=>D b o hb e) f0 f1 n f4 q⟩
 self:=λ_ _ _ _ _ st h=>wpAny_pyIter_listiter st h
theorem lj {P:Program}{w:World}{K:PySem.W.Frag}{tg:Expr}(a it:Addr):Turn P w K tg (Itt K a) [it] it (λi h=>h.IsTupleIter it a i) where
 mem:=by simp
 obj:=λi h st b hb=>by
  have e:b=it:=by simpa using hb
  subst e;obtain⟨o,e,c,d⟩:=st;exact⟨o,e,λv z=>by rw[d]at z;cases z⟩
 keep:=λi h h' st k=>st.at λo e=>k it (by simp) o e
 item:=by
  intro X r hw m t i pins s σ H E I hf st hg;subst r hw m;obtain⟨xs,x,hq,j⟩:=hg;obtain⟨f,l,p,hz⟩:=I.tuple hq;obtain⟨u,B,y⟩:=l.get j;obtain⟨f0,f1,f2,n,f4,q⟩:=hf it (by simp);refine wpAny_pyNext_tuple_item st (show s.heap.IsTuple a f.toArray from p) (x:=u) (by simpa using B) λh' g C=>?_;have F:Inv X pins σ H {s with heap:=h'}:=I.turned (t':=s.toks) (λb o hb e=>(C.2 b hb).trans e) f0 f1 n f4 q;obtain⟨o,e,c,d⟩:=id g;exact⟨u,rfl,rR (s:={s with heap:=h'}) e c d (by decide) ⟨x,H,F,y,⟨rfl,λys hy=>by rw[I.tuple_inj hy hq];exact j⟩,g,λb hb=>(hf b hb).1⟩⟩
 done:=by
  intro X r hw m t i pins s σ H E I hf st hg;subst r hw m;obtain⟨xs,hq,j⟩:=hg;obtain⟨f,l,p,hz⟩:=I.tuple hq;obtain⟨f0,f1,f2,n,f4,q⟩:=hf it (by simp);have A:=l.length;exact wpAny_pyNext_tuple_end (I.ok.hd t) st (show s.heap.IsTuple a f.toArray from p) (by simp;exact zY1 (zZ3 A.symm) j) λh' D=>⟨rfl,I.turned (t':=s.toks) (λb o hb e=>D b o hb e) f0 f1 n f4 q⟩
 self:=λ_ _ _ _ _ st h=>wpAny_pyIter_tupleiter st h
theorem kF {P:Program}{w:World}{K:PySem.W.Frag}{tg:Expr}(it:Addr)(lo:Int)(n:Nat):Turn P w K tg (Itr lo n) [it] it (λi h=>IsRangeIter h it (lo+(i:Nat)*1) ((n:Int)-(i:Nat)) 1) where
 mem:=by simp
 obj:=λi h st b hb=>by
  have e:b=it:=by simpa using hb
  subst e;exact⟨_,st,λv z=>by
   have m:Data.fields _=Data.cell v:=z;cases m⟩
 keep:=λi h h' st k=>k it (by simp) _ st
 item:=by
  intro X j hw c g i pins s σ H E I hf st hg;subst j hw c;obtain⟨f0,f1,f2,d,f4,f⟩:=hf it (by simp);have W:=Walks.range (prog:=X.prog) (w:=X.w) (I.ok.hd g) it lo 1 n;refine W.item i s _ _ hg st λv h' tk l a p=>?_;obtain⟨t,rfl⟩:=l;have r:Inv X pins σ H {s with heap:=h',toks:=tk}:=I.turned (λb o hb e=>p b o (by simpa using hb) e) f0 f1 d f4 f;refine⟨_,rfl,rR (s:={s with heap:=h',toks:=tk}) (n:="range_iterator") a rfl rfl (by decide) ⟨.int (lo+i),H,r,⟨t,?_⟩,⟨rfl,rfl⟩,a,λb hb=>(hf b hb).1⟩⟩;rw[Int.mul_one]
 done:=by
  intro X j hw c g i pins s σ H E I hf st hg;subst j hw c;obtain⟨f0,f1,f2,d,f4,f⟩:=hf it (by simp);exact wpAny_pyNext_range_end (I.ok.hd g) st (by have:n<=i:=hg;exact zO8 this) λh' q=>⟨rfl,I.turned (t':=s.toks) (λb o hb e=>q b o hb e) f0 f1 d f4 f⟩
 self:=λ_ _ _ _ _ st h=>wpAny_pyIter_rangeiter st h
section
variable {X:Cx}{tg:Expr}
def zR0 (K:PySem.W.Frag)(b:TE):TI:=λσ H R=>b σ H λx H1=>∃a,x=.ref a/\(∃xs,SqL K H1 a xs)/\R (Itl K a) H1
def zU0 (K:PySem.W.Frag)(b:TE):TI:=λσ H R=>b σ H λx H1=>∃a,x=.ref a/\(∃xs,SqT K H1 a xs)/\R (Itt K a) H1
theorem jY {l:Expr}{f:TE}(j:PE X l f):PI X tg l (zR0 X.K f):=by
 intro pins s σ H R I h;refine thn (j pins s σ H _ I h) λv s1 c=>?_;obtain⟨x,H1,d,i,k⟩:=c;obtain⟨a,e,⟨xs,hq⟩,q⟩:=k;subst e;cases i;obtain⟨g,m,p,hz⟩:=d.list hq;refine z60 p.isList ?_;refine⟨s1.heap.objs.size,[s1.heap.objs.size],_,_,H1,rfl,d.kept (t':=s1.toks) λb o e=>zX2 _ e,fe a _,⟨_,zY5 _ rfl,rfl,rfl⟩,λb hb=>?_,q⟩;have e:b=s1.heap.objs.size:=by simpa using hb
 subst e;exact d.fpOk (zX7 _) (d.hok.fresh (zX7 _))
theorem zx8 {l:Expr}{g:TE}(j:PE X l g):PI X tg l (zU0 X.K g):=by
 intro pins s σ H R I h;refine thn (j pins s σ H _ I h) λv s1 c=>?_;obtain⟨x,H1,d,i,k⟩:=c;obtain⟨a,e,⟨xs,hq⟩,q⟩:=k;subst e;cases i;obtain⟨f,m,p,hz⟩:=d.tuple hq;refine wpAny_pyIter_tuple (show s1.heap.IsTuple a f.toArray from p) ?_;refine⟨s1.heap.objs.size,[s1.heap.objs.size],_,_,H1,rfl,d.kept (t':=s1.toks) λb o e=>zX2 _ e,lj a _,⟨_,zY5 _ rfl,rfl,rfl⟩,λb hb=>?_,q⟩;have e:b=s1.heap.objs.size:=by simpa using hb
 subst e;exact d.fpOk (zX7 _) (d.hok.fresh (zX7 _))
theorem mz {pins:List (Addr×Obj)}{σ:St}{H:Hp}{s:Shared}{R:It->Hp->Prop}{E:Value->Shared->Prop}{lo hi:Int}{t u v:Tok}{tk:Nat}(I:Inv X pins σ H s)(h1:-(2 ^ 62)<=lo)(h2:lo<2 ^ 62)(h3:-(2 ^ 62)<=hi)(d:hi<2 ^ 62)
  (q:R (Itr lo (hi-lo).toNat) H):wpAny (model X.prog X.w) X.A (pyIter (.ref s.heap.objs.size)) (PIE X pins σ tg R) E {s with heap:=s.heap.push {cls:=.type "range",data:=.fields #[.int lo t,.int hi u,.int 1 v]},toks:=tk}:=by
 refine wpAny_pyIter_range (IsRange.new ..) (small_one h1 h2 h3 d) ?_;have a:Inv X pins σ H {s with heap:=s.heap.push {cls:=.type "range",data:=.fields #[.int lo t,.int hi u,.int 1 v]},toks:=tk}:=I.kept λb o e=>zX2 _ e;refine⟨(s.heap.push {cls:=.type "range",data:=.fields #[.int lo t,.int hi u,.int 1 v]}).objs.size,[(s.heap.push {cls:=.type "range",data:=.fields #[.int lo t,.int hi u,.int 1 v]}).objs.size],_,_,H,rfl,
  a.kept (t':=tk) λb o e=>zX2 _ e,kF _ lo (hi-lo).toNat,?_,λb hb=>?_,q⟩
 ·have e1:lo+((0:Nat):Int)*1=lo:=by simp
  have c:(((hi-lo).toNat:Nat):Int)-((0:Nat):Int)=Builtin.Range.rangeSize lo hi 1:=by rw[rangeSize_one];split<;>lia
  show IsRangeIter _ _ (lo+((0:Nat):Int)*1) ((((hi-lo).toNat:Nat):Int)-((0:Nat):Int)) 1;rw[e1,c];exact zY5 _ rfl
 ·have e:b=(s.heap.push {cls:=.type "range",data:=.fields #[.int lo t,.int hi u,.int 1 v]}).objs.size:=by simpa using hb
  subst e;exact a.fpOk (zX7 _) (a.hok.fresh (zX7 _))
def zI3 (a:TA):TI:=λσ H R=>a σ H λvs H1=>∃j:Int,vs=[.int j]/\-(2 ^ 62)<=j/\j<2 ^ 62/\R (Itr 0 j.toNat) H1
def zM7 (a:TA):TI:=λσ H R=>a σ H λvs H1=>∃i j:Int,vs=[.int i,.int j]/\(-(2 ^ 62)<=i/\i<2 ^ 62/\-(2 ^ 62)<=j/\j<2 ^ 62)/\R (Itr i (j-i).toNat) H1
theorem fU {a:Expr}{d:TA}{p pos:Pos}(hg:Gl X "range")(hm:X.mg "range"=none)(ha:PA X [a] d)(i:starEach [a] X.env=[(false,eval a X.env)]:=by rfl):PI X tg (.Call (.Name "range" p) [a] [] pos) (zI3 d):=by
 intro pins s σ H R I h;refine Call_ (yO I hg hm boot_range (z21 (thn (ha pos pins s σ H _ I h) λus s1 b=>?_) i rfl));obtain⟨vs,H1,l,k,c⟩:=b;obtain⟨j,e,c,f,q⟩:=c;subst e;cases k with
 |cons r g=>
  cases g;obtain⟨t,rfl⟩:=r;exact call_range_1 (mz l (by decide) (by decide) c f (by simpa using q))
theorem iG {a b:Expr}{g:TA}{p pos:Pos}(hg:Gl X "range")(hm:X.mg "range"=none)(ha:PA X [a,b] g)(v:starEach [a,b] X.env=[(false,eval a X.env),(false,eval b X.env)]:=by rfl)(c:starEach [b] X.env=[(false,eval b X.env)]:=by rfl):
  PI X tg (.Call (.Name "range" p) [a,b] [] pos) (zM7 g):=by
 intro pins s σ H R I h;refine Call_ (yO I hg hm boot_range (z21 (thn (ha pos pins s σ H _ I h) λus s1 ⟨vs,H1,o,n,f⟩=>?_) (by rw[v,c]) (by rw[c];rfl)));obtain⟨i,j,e,⟨f,l,k,u⟩,q⟩:=f;subst e;cases n with
 |cons r d=>
  cases d with
  |cons m d=>
   cases d;obtain⟨t,rfl⟩:=r;obtain⟨t',rfl⟩:=m;exact call_range_2 (mz o f l k u q)
def zU5 (d:TI)(g:TG)(c:TS):TS:=λD σ H=>d σ H λJ H1=>∃W:Nat->Nat->St->Hp->Prop,(∃m,W 0 m σ H1)/\∀i m σ H,W i m σ H->
 (J.stop i H/\D.nx σ H)\/(J.go i H/\∃N:St->Hp->Prop,(∀a H',N a H'->∃b,b<m/\W (i+1) b a H')/\∀x H',J.yld i H x H'->g x σ H' λσ2 e=>c {D with nx:=N,ct:=N,bk:=D.nx} σ2 e)
def sN (fp:List Addr)(h:Heap):List (Addr×Obj):=fp.filterMap λb=>(h.get? b).map λo=>(b,o)
theorem wx {fp:List Addr}{h:Heap}{b:Addr}{o:Obj}(hb:b∈fp)(e:h.get? b=some o):(b,o)∈sN fp h:=yg4.mpr ⟨b,hb,by rw[e];rfl⟩
theorem iX {fp:List Addr}{h:Heap}{p:Addr×Obj}(a:p∈sN fp h):p.1∈fp/\h.get? p.1=some p.2:=by
 obtain⟨b,hb,e⟩:=yg4.mp a;cases q:h.get? b with
 |none=>rw[q]at e;cases e
 |some o=>
  rw[q]at e;have c:(b,o)=p:=z00 e;subst c;exact⟨hb,q⟩
theorem Inv.pinned {pins:List (Addr×Obj)}{σ:St}{H:Hp}{s:Shared}{fp:List Addr}(I:Inv X pins σ H s)(hf:∀b∈fp,yZ X pins H b)(f:∀b∈fp,∃o,s.heap.get? b=some o/\∀v,o.data≠.cell v):Inv X (pins++sN fp s.heap) σ H s:=
 I.pins_of λp c=>(z31.mp c).elim (λz=>I.pin p (z07 _ z)) λz=>by
  obtain⟨hb,e⟩:=iX z;obtain⟨f0,f1,f2,_⟩:=hf p.1 hb;obtain⟨o,a,d⟩:=f p.1 hb;rw[e]at a;cases a;exact⟨e,f0,f1,f2,d⟩
theorem Inv.unpinned {pins pl:List (Addr×Obj)}{σ:St}{H:Hp}{s:Shared}(I:Inv X (pins++pl) σ H s):Inv X pins σ H s:=I.pins_of λp a=>I.pin p (z07 _ (z89 _ a))
theorem zF3 {iter:Expr}{body:List Stmt}{V:TI}{g:TG}{S:TS}{pos:Pos}(y:PassesOwn (model X.prog X.w) X.A X.env X.xe)(Z:X.calm=true)(hi:PI X tg iter V)(hg:PG X tg g)(hb:PSs X body S)
  (hs:∀x,foldedSetIterable iter X.env x=pure x:=by intro _;rfl):PS X (.For tg iter body [] pos) (zU5 V g S):=by
 intro pins s σ H D I h;refine wpAny_For (thn (hi pins s σ H _ I h) λv s1 h1=>thn h1 λa0 s2 h2=>?_) hs;obtain⟨it,fp,tn,J,H2,e,I2,T,P,f2,W,⟨m0,w0⟩,turn⟩:=h2;subst e
 -- what stays true of the iterator's objects through the loop
 have l:∀{H':Hp},(∀b∈fp,H' b=none)->∀b∈fp,yZ X pins H' b:=λhn b hb=>⟨hn b hb,(f2 b hb).2⟩;refine codeAny_forLoop_any (λn s'=>∃i c H',Inv X pins c H' s'/\tn i s'.heap/\(∀b∈fp,H' b=none)/\W i n c H') ?_ m0 ⟨0,σ,H2,I2,P,λb hb=>(f2 b hb).1,w0⟩;rintro n s3 ⟨i,k,L,U,C,G,w3⟩;rcases turn i n k L w3 with⟨stop,qn⟩|⟨go,N,hN,step⟩
 ·refine z82 y (thn (T.done X rfl rfl rfl Z i pins s3 k L X.xe U (l G) C stop) λr s4 F=>?_);obtain⟨hr,I4⟩:=F;subst hr;exact ye7 ⟨k,L,I4,qn⟩
 ·refine z82 y (thn (T.item X rfl rfl rfl Z i pins s3 k L X.xe U (l G) C go) λr s4 z=>?_);obtain⟨u,hr,h4⟩:=z;subst hr;refine z82 y (thn h4 λ_ s5 K=>?_);obtain⟨x,Y,I5,r5,y5,t,O⟩:=K;have M:=I5.pinned (l O) (T.obj _ _ t);refine z82 y (thn (hg _ s5 k Y x u _ M r5 (step x Y y5)) λ_ s6 E=>?_);obtain⟨R,H6,I6,q6⟩:=E;refine z82 y (thn (hb _ s6 R H6 _ I6 q6) λf Q q=>?_);have again:∀{a:St} {p:Hp},Inv X (pins++sN fp s5.heap) a p Q->N a p->∃m,m<n/\∃i c H',Inv X pins c H' Q/\tn i Q.heap/\(∀b∈fp,H' b=none)/\W i m c H':=λ{a p} j B=>by
   obtain⟨m',hm,w7⟩:=hN a p B;refine⟨m',hm,i+1,a,p,j.unpinned,T.keep _ _ _ t λb hb o e=>(j.pin (b,o) (z07 _ (z07 _ (wx hb e)))).1,λb hb=>?_,w7⟩;obtain⟨o,e,d⟩:=T.obj _ _ t b hb;exact(j.pin (b,o) (z07 _ (z07 _ (wx hb e)))).2.1
  cases f with
  |next=>obtain⟨a,p,j,B⟩:=q;exact again j B
  |cont=>obtain⟨a,p,j,B⟩:=q;exact again j B
  |brk=>obtain⟨a,p,j,q⟩:=q;exact⟨a,p,j.unpinned,q⟩
  |ret v=>obtain⟨x7,a,p,j,r7,q⟩:=q;exact⟨x7,a,p,j.unpinned,r7,q⟩
end
abbrev R2 :=V->V->Hp->VK->Prop
def OpR (X:Cx)(f:Value->Value->Sem Value)(r:R2):Prop:=
 ∀(pins:List (Addr×Obj)) (s:Shared) (σ:St) (H:Hp) (x y:V) (v u:Value) (Q:VK),Inv X pins σ H s->RelV x v->RelV y u->r x y H Q->
  wpAny (model X.prog X.w) X.A (f v u) (EP X pins σ Q) X.xe s
def UnR (X:Cx)(f:Value->Sem Value)(r:V->Hp->VK->Prop):Prop:=
 ∀(pins:List (Addr×Obj)) (s:Shared) (σ:St) (H:Hp) (x:V) (v:Value) (Q:VK),Inv X pins σ H s->RelV x v->r x H Q->
  wpAny (model X.prog X.w) X.A (f v) (EP X pins σ Q) X.xe s
def yE (X:Cx)(f:Value)(r:List V->Hp->VK->Prop):Prop:=
 ∀(pins:List (Addr×Obj)) (s:Shared) (σ:St) (H:Hp) (xs:List V) (us:List Value) (Q:VK),Inv X pins σ H s->Vals xs us->r xs H Q->
  wpAny (model X.prog X.w) X.A (call f us) (EP X pins σ Q) X.xe s
def zT3 (X:Cx)(r:V->Hp->(Bool->Hp->Prop)->Prop):Prop:=
 ∀(pins:List (Addr×Obj)) (s:Shared) (σ:St) (H:Hp) (x:V) (v:Value) (Q:Bool->Hp->Prop),Inv X pins σ H s->RelV x v->r x H Q->
  wpAny (model X.prog X.w) X.A (truthy v) (TP X pins σ Q) X.xe s
def tOp (r:R2)(a c:TE):TE:=λσ H Q=>a σ H λx H1=>c σ H1 λy b=>r x y b Q
def tUn (r:V->Hp->VK->Prop)(a:TE):TE:=λσ H Q=>a σ H λx H1=>r x H1 Q
def rI (C:Int->Int->Prop)(g:Int->Int->V):R2:=λx y H Q=>∃i j,x=.int i/\y=.int j/\C i j/\Q (g i j) H
def rI0 (g:Int->Int->V):R2:=λx y H Q=>∃i j,x=.int i/\y=.int j/\Q (g i j) H
def rU (g:Int->V):V->Hp->VK->Prop:=λx H Q=>∃i,x=.int i/\Q (g i) H
section
variable {X:Cx}{a b c:Expr}{ta tb tc:TE}{pos:Pos}
theorem zG7 (ha:PE X a ta)(hb:PE X b tb){pins:List (Addr×Obj)}{s:Shared}{σ:St}{H:Hp}{R:V->V->Hp->Prop}(I:Inv X pins σ H s)
  (h:ta σ H λx H1=>tb σ H1 λy d=>R x y d) {Q:Value->Shared->Prop} {f:Value->Value->Sem Value}
  (hf:∀v u s2 x y d,Inv X pins σ d s2->RelV x v->RelV y u->R x y d->wpAny (model X.prog X.w) X.A (f v u) Q X.xe s2):
  wpAny (model X.prog X.w) X.A (eval a X.env) (λv i=>wpAny (model X.prog X.w) X.A (eval b X.env) (λu e=>wpAny (model X.prog X.w) X.A (f v u) Q X.xe e) X.xe i) X.xe s:=by
 refine thn (ha pins s σ H _ I h) λv s1 j=>?_;obtain⟨x,H1,o,m,n⟩:=j;refine thn (hb pins s1 σ H1 _ o n) λu s2 g=>?_;obtain⟨y,d,p,l,k⟩:=g;exact hf v u s2 x y d p m l k
theorem ym {op:Operator}{r:R2}(g:OpR X (binaryOp op) r)(ha:PE X a ta)(hb:PE X b tb):PE X (.BinOp a op b pos) (tOp r ta tb):=by
 intro pins s σ H Q I h;exact wpAny_BinOp (zG7 ha hb I h λv u s2 x y f i e d q=>g pins s2 σ f x y v u Q i e d q)
theorem zr8 {op:UnaryOp}{r:V->Hp->VK->Prop}(i:UnR X (unaryOp op) r)(ha:PE X a ta):PE X (.UnaryOp op a pos) (tUn r ta):=by
 intro pins s σ H Q I h;exact UnaryOp_ (thn (ha pins s σ H _ I h) λv s1 d=>by obtain⟨x,H1,g,e,f⟩:=d;exact i pins s1 σ H1 x v Q g e f)
theorem opI {f:Value->Value->Sem Value}{C:Int->Int->Prop}{g:Int->Int->Int}
  (rule:∀(i j:Int) (t u:Tok) (s:Shared) (Q:Value->Shared->Prop) (E:Value->Shared->Prop),C i j->Q (.int (g i j) s.toks) {s with toks:=s.toks+1}->wpAny (model X.prog X.w) X.A (f (.int i t) (.int j u)) Q E s):
  OpR X f (rI C λi j=>.int (g i j)):=by
 intro pins s σ H x y v u Q I e d h;obtain⟨i,j,rfl,rfl,k,q⟩:=h;obtain⟨t,rfl⟩:=e;obtain⟨t',rfl⟩:=d;exact rule i j t t' s _ _ k ⟨.int (g i j),H,I.tok _,⟨_,rfl⟩,q⟩
theorem zM6 {f:Value->Value->Sem Value}{g:Int->Int->Int}
  (rule:∀(i j:Int) (t u:Tok) (s:Shared) (Q:Value->Shared->Prop) (E:Value->Shared->Prop),Q (.int (g i j) s.toks) {s with toks:=s.toks+1}->wpAny (model X.prog X.w) X.A (f (.int i t) (.int j u)) Q E s):
  OpR X f (rI0 λi j=>.int (g i j)):=by
 intro pins s σ H x y v u Q I e d h;obtain⟨i,j,rfl,rfl,q⟩:=h;obtain⟨t,rfl⟩:=e;obtain⟨t',rfl⟩:=d;exact rule i j t t' s _ _ ⟨.int (g i j),H,I.tok _,⟨_,rfl⟩,q⟩
theorem zn9 {f:Value->Value->Sem Value}{g:Int->Int->Bool}
  (rule:∀(i j:Int) (t u:Tok) (s:Shared) (Q:Value->Shared->Prop) (E:Value->Shared->Prop),Q (.bool (g i j)) s->wpAny (model X.prog X.w) X.A (f (.int i t) (.int j u)) Q E s):
  OpR X f (rI0 λi j=>.bl (g i j)):=by
 intro pins s σ H x y v u Q I e d h;obtain⟨i,j,rfl,rfl,q⟩:=h;obtain⟨t,rfl⟩:=e;obtain⟨t',rfl⟩:=d;exact rule i j t t' s _ _ ⟨.bl (g i j),H,I,rfl,q⟩
def zA0 (i j:Int):Prop:=0<=j/\j<=1000000/\i.natAbs<2 ^ 64
def zy9 (i j:Int):Prop:=(-(2 ^ 64)<i/\i<2 ^ 64)\/(-(2 ^ 64)<j/\j<2 ^ 64)
theorem zy9.ok {i j:Int}(h:zy9 i j):IntMulOk i j:=by
 rcases h with⟨h1,h2⟩|⟨h1,h2⟩
 ·exact .of_left (intBits_le_64 h1 h2)
 ·exact .of_right (intBits_le_64 h1 h2)
theorem uF :OpR X (binaryOp .Add) (rI0 λi j=>.int (i+j)):=zM6 λ_ _ _ _ _ _ _ q=>add_int q
theorem zy0 :OpR X (binaryOp .Sub) (rI0 λi j=>.int (i-j)):=zM6 λ_ _ _ _ _ _ _ q=>sub_int q
theorem sT :OpR X (binaryOp .Mult) (rI zy9 λi j=>.int (i*j)):=opI λ_ _ _ _ _ _ _ d q=>mul_int q d.ok
theorem vM :OpR X (binaryOp .Mod) (rI (λ_ j=>0<j) λi j=>.int (i % j)):=opI λi j _ _ _ _ _ d q=>by
 have h1:(0:Int)<j:=d;exact mod_int' (ye8 d) (by rw[Int.fmod_eq_emod_of_nonneg i (ye9 d)];exact q)
theorem aa :OpR X (binaryOp .Pow) (rI zA0 λi j=>.int (i ^ j.toNat)):=opI λ_ _ _ _ _ _ _ d q=>pow_int_small d.1 d.2.1 d.2.2 q
theorem unI {f:Value->Sem Value}{g:Int->Int}
  (rule:∀(i:Int) (t:Tok) (s:Shared) (Q:Value->Shared->Prop) (E:Value->Shared->Prop),Q (.int (g i) s.toks) {s with toks:=s.toks+1}->wpAny (model X.prog X.w) X.A (f (.int i t)) Q E s):
  UnR X f (rU λi=>.int (g i)):=by
 intro pins s σ H x v Q I d h;obtain⟨i,rfl,q⟩:=h;obtain⟨t,rfl⟩:=d;exact rule i t s _ _ ⟨.int (g i),H,I.tok _,⟨_,rfl⟩,q⟩
theorem eM :UnR X (unaryOp .USub) (rU λi=>.int (-i)):=unI λ_ _ _ _ _ q=>neg_int q
end
def zL5 :V->V->Bool
 |.non,.non=>true|.non,.int _=>true|.int _,.non=>true|.non,.bl _=>true|.bl _,.non=>true|.non,.str _=>true|.str _,.non=>true
 |.int _,.int _=>true|.bl _,.bl _=>true|.str _,.str _=>true|.byt _,.byt _=>true
 |.int _,.str _=>true|.str _,.int _=>true|.bl _,.str _=>true|.str _,.bl _=>true
 |_,_=>false
def rEq :R2:=λx y H Q=>zL5 x y=true/\Q (.bl (decide (x=y))) H
def rNe :R2:=λx y H Q=>zL5 x y=true/\Q (.bl (!decide (x=y))) H
theorem jj {i j:Int}:decide (V.int i=V.int j)=(i == j):=by
 rw[yf0];simp
theorem zb2 {i j:Bool}:decide (V.bl i=V.bl j)=(i == j):=by
 rw[yf0];simp
theorem jU {i j:Str}:decide (V.str i=V.str j)=(i == j):=by
 rw[yf0];simp
theorem jR {i j:Array UInt8}:decide (V.byt i=V.byt j)=(i.toList == j.toList):=by
 rw[yf0];cases i;cases j;simp
section
variable {X:Cx}{a b c:Expr}{ta tb tc:TE}{pos:Pos}
theorem zy {pins:List (Addr×Obj)}{σ:St}{H:Hp}{s:Shared}{Q:VK}{k d:Bool}(I:Inv X pins σ H s)(q:Q (.bl k) H)(e:k=d):EP X pins σ Q (.bool d) s:=by
 subst e;exact⟨.bl k,H,I,rfl,q⟩
theorem jG :OpR X (compareOp .Eq) rEq:=by
 intro pins s σ H x y v u Q I f d h;obtain⟨e,q⟩:=h;cases x with
 |non=>
  cases f;cases y with
  |non=>cases d;exact PySem.EqNone.eq_none_none (zy I q (by simp))
  |bl j=>cases d;exact PySem.EqNone.eq_none_bool (zy I q (by simp))
  |int j=>obtain⟨t',rfl⟩:=d;exact PySem.EqNone.eq_none_int (zy I q (by simp))
  |str j=>obtain⟨t',rfl⟩:=d;exact PySem.EqNone.eq_none_str (zy I q (by simp))
  |_=>exact absurd (show false=true from e) zZ8
 |bl i=>
  cases f;cases y with
  |non=>cases d;exact PySem.EqNone.eq_bool_none (zy I q (by simp))
  |bl j=>cases d;exact eq_bool (zy I q zb2)
  |str j=>obtain⟨t',rfl⟩:=d;exact PySem.EqMixed.eq_bool_str (zy I q (by simp))
  |_=>exact absurd (show false=true from e) zZ8
 |int i=>
  obtain⟨t,rfl⟩:=f;cases y with
  |non=>cases d;exact PySem.EqNone.eq_int_none (zy I q (by simp))
  |int j=>obtain⟨t',rfl⟩:=d;exact eq_int (zy I q jj)
  |str j=>obtain⟨t',rfl⟩:=d;exact PySem.EqMixed.eq_int_str (zy I q (by simp))
  |_=>exact absurd (show false=true from e) zZ8
 |str i=>
  obtain⟨t,rfl⟩:=f;cases y with
  |non=>cases d;exact PySem.EqNone.eq_str_none (zy I q (by simp))
  |bl j=>cases d;exact PySem.EqMixed.eq_str_bool (zy I q (by simp))
  |int j=>obtain⟨t',rfl⟩:=d;exact PySem.EqMixed.eq_str_int (zy I q (by simp))
  |str j=>obtain⟨t',rfl⟩:=d;exact eq_str (zy I q jU)
  |_=>exact absurd (show false=true from e) zZ8
 |byt i=>
  obtain⟨t,rfl⟩:=f;cases y with
  |byt j=>obtain⟨t',rfl⟩:=d;exact PySem.W.eq_bytes (zy I q jR)
  |_=>exact absurd (show false=true from e) zZ8
 |_=>cases y<;>exact absurd (show false=true from e) zZ8
theorem zJ3 :OpR X (compareOp .NotEq) rNe:=by
 intro pins s σ H x y v u Q I f d h;obtain⟨e,q⟩:=h;cases x with
 |non=>
  cases f;cases y with
  |non=>cases d;exact PySem.EqNone.ne_none_none (zy I q (by simp))
  |bl j=>cases d;exact PySem.EqNone.ne_none_bool (zy I q (by simp))
  |int j=>obtain⟨t',rfl⟩:=d;exact PySem.EqNone.ne_none_int (zy I q (by simp))
  |str j=>obtain⟨t',rfl⟩:=d;exact PySem.EqNone.ne_none_str (zy I q (by simp))
  |_=>exact absurd (show false=true from e) zZ8
 |bl i=>
  cases f;cases y with
  |non=>cases d;exact PySem.EqNone.ne_bool_none (zy I q (by simp))
  |bl j=>cases d;exact ne_bool (zy I q (congrArg not zb2))
  |str j=>obtain⟨t',rfl⟩:=d;exact PySem.EqMixed.ne_bool_str (zy I q (by simp))
  |_=>exact absurd (show false=true from e) zZ8
 |int i=>
  obtain⟨t,rfl⟩:=f;cases y with
  |non=>cases d;exact PySem.EqNone.ne_int_none (zy I q (by simp))
  |int j=>obtain⟨t',rfl⟩:=d;exact ne_int (zy I q (congrArg not jj))
  |str j=>obtain⟨t',rfl⟩:=d;exact PySem.EqMixed.ne_int_str (zy I q (by simp))
  |_=>exact absurd (show false=true from e) zZ8
 |str i=>
  obtain⟨t,rfl⟩:=f;cases y with
  |non=>cases d;exact PySem.EqNone.ne_str_none (zy I q (by simp))
  |bl j=>cases d;exact PySem.EqMixed.ne_str_bool (zy I q (by simp))
  |int j=>obtain⟨t',rfl⟩:=d;exact PySem.EqMixed.ne_str_int (zy I q (by simp))
  |str j=>obtain⟨t',rfl⟩:=d;exact ne_str (zy I q (congrArg not jU))
  |_=>exact absurd (show false=true from e) zZ8
 |byt i=>
  obtain⟨t,rfl⟩:=f;cases y with
  |byt j=>obtain⟨t',rfl⟩:=d;exact PySem.W.ne_bytes (zy I q (congrArg not jR))
  |_=>exact absurd (show false=true from e) zZ8
 |_=>cases y<;>exact absurd (show false=true from e) zZ8
theorem jA :OpR X (compareOp .Lt) (rI0 λi j=>.bl (decide (i<j))):=zn9 λ_ _ _ _ _ _ _ q=>lt_int q
theorem qq :OpR X (compareOp .LtE) (rI0 λi j=>.bl (decide (i<=j))):=zn9 λ_ _ _ _ _ _ _ q=>le_int q
theorem jv :OpR X (compareOp .Gt) (rI0 λi j=>.bl (decide (j<i))):=zn9 λ_ _ _ _ _ _ _ q=>gt_int q
theorem zb3 :OpR X (compareOp .GtE) (rI0 λi j=>.bl (decide (j<=i))):=zn9 λ_ _ _ _ _ _ _ q=>ge_int q
theorem fG :OpR X (compareOp .In) (λx y H Q=>∃i j,x=.str i/\y=.str j/\Q (.bl (!(Builtin.Str.occurrences j i 0 j.length 1).isEmpty)) H):=by
 intro pins s σ H x y v u Q I e d h;obtain⟨i,j,rfl,rfl,q⟩:=h;obtain⟨t,rfl⟩:=e;obtain⟨t',rfl⟩:=d;exact in_str (zy I q rfl)
theorem aV :OpR X (compareOp .Is) (λx y H Q=>y=.non/\Q (.bl (decide (x=.non))) H):=by
 intro pins s σ H x y v u Q I d e h;obtain⟨rfl,q⟩:=h;cases e;refine is_none_gen (zy I q ?_);cases x<;>first
  |(cases d;rfl)
  |(obtain⟨t,rfl⟩:=d;rfl)
theorem zh7 :OpR X (compareOp .IsNot) (λx y H Q=>y=.non/\Q (.bl (!decide (x=.non))) H):=by
 intro pins s σ H x y v u Q I d e h;obtain⟨rfl,q⟩:=h;cases e;refine isnot_none_gen (zy I q ?_);cases x<;>first
  |(cases d;rfl)
  |(obtain⟨t,rfl⟩:=d;rfl)
theorem yc (b:Expr){op:CmpOp}(h:op≠.In:=by decide)(h2:op≠.NotIn:=by decide):behindInMarks op b=false:=by
 have e1:(op == CmpOp.In)=false:=by cases op<;>first|rfl|exact absurd rfl h
 have d:(op == CmpOp.NotIn)=false:=by cases op<;>first|rfl|exact absurd rfl h2
 cases b<;>simp[behindInMarks,e1,d]
theorem tG {op:CmpOp}{r:R2}(g:OpR X (compareOp op) r)(ha:PE X a ta)(hb:PE X b tb)(hm:behindInMarks op b=false):PE X (.Compare a [op] [b] pos) (tOp r ta tb):=by
 intro pins s σ H Q I h;exact wpAny_Compare1 (zG7 ha hb I h λv u s2 x y f i e d q=>g pins s2 σ f x y v u Q i e d q) hm
def zs3 (t:TE):TT:=λσ H Q=>t σ H λx H'=>∃k,x=.bl k/\Q k H'
theorem vj {op:CmpOp}{r:R2}(q:OpR X (compareOp op) r)(ha:PE X a ta)(hb:PE X b tb)(hm:behindInMarks op b=false):PT X (.Compare a [op] [b] pos) (zs3 (tOp r ta tb)):=by
 intro pins s σ H Q I h;refine wpAny_isTrue_Compare1 (thn (ha pins s σ H _ I h) λv s1 ⟨x,H1,l,j,m⟩=>thn (hb pins s1 σ H1 _ l m) λu s2 ⟨y,n,p,i,f⟩=>
  thn (q pins s2 σ n x y v u _ p j i f) λc s3 ⟨z,d,t,g,k,e,o⟩=>?_) hm
 subst e;cases g;exact z28 ⟨d,t,o⟩
def zz8 (r h:R2)(ta tb tc:TE):TE:=λσ H Q=>ta σ H λx H1=>tb σ H1 λy g=>r x y g λz d=>∃k,z=.bl k/\
 (if k=true then tc σ d λf e=>h y f e Q else Q (.bl false) d)
theorem za0 {op f:CmpOp}{r l:R2}(w:OpR X (compareOp op) r)(g:OpR X (compareOp f) l)(ha:PE X a ta)(hb:PE X b tb)(L:PE X c tc)
  (hm:lastMarks [op,f] [b,c]=false:=by with_unfolding_all rfl):PE X (.Compare a [op,f] [b,c] pos) (zz8 r l ta tb tc):=by
 intro pins s σ H Q I h;refine Compare_chain (thn (ha pins s σ H _ I h) λv s1 ⟨x,H1,J,E,q⟩=>chain_link (thn (hb pins s1 σ H1 _ J q) λu s2 ⟨y,t,A,m,B⟩=>
  thn (w pins s2 σ t x y v u _ A E m B) λd s3 ⟨z,j,n,C,k,e,i⟩=>?_)) hm
 subst e;cases C;refine z28 ?_;cases k with
 |false=>exact ite_ff ⟨.bl false,j,n,rfl,i⟩
 |true=>exact ite_tt (chain_last (thn (L pins s3 σ j _ n i) λp s4 ⟨o,F,D,G,K⟩=>g pins s4 σ F y o u p Q D m G K))
def zN9 (K:PySem.W.Frag)(x:V)(H:Hp)(k:Bool):Prop:=
 match x with
 |.non=>k=false
 |.bl b=>k=b
 |.int i=>k=(i != 0)
 |.str y=>y.length<=sizeLine/\k=((y.length:Int) != 0)
 |.byt y=>y.size<=sizeLine/\k=((y.size:Int) != 0)
 |.ref p=>(∃xs,SqL K H p xs/\k=!xs.isEmpty)\/(∃xs,SqT K H p xs/\k=!xs.isEmpty)\/∃kvs,H p=some (.dK kvs)/\k=!kvs.isEmpty
 |_=>False
theorem mW {d:Type}{kvs:List (d×V)}{vs:List (d×Value)}(r:KV kvs vs):(!vs.isEmpty)=!kvs.isEmpty:=by
 cases r<;>rfl
theorem rq {xs:List V}{d:List Value}(r:Vals xs d):(!d.toArray.isEmpty)=!xs.isEmpty:=by
 cases r<;>simp
theorem uG :(sizeLine:Nat)<2 ^ 63:=by rw[z41];decide
theorem zD5 :zT3 X (λx H Q=>∃k,zN9 X.K x H k/\Q k H):=by
 intro pins s σ H x v Q I f h;obtain⟨k,e,q⟩:=h;have o:=uG;have j:sizeLine=16777216:=z41;cases x with
 |non=>
  cases f;have d:k=false:=e;subst d;exact truthy_none ⟨H,I,q⟩
 |bl b=>
  cases f;have d:k=b:=e;subst d;exact z28 ⟨H,I,q⟩
 |int i=>
  obtain⟨t,rfl⟩:=f;have d:k=(i != 0):=e;subst d;exact PySem.P.truthy_int ⟨H,I,q⟩
 |str y=>
  obtain⟨t,rfl⟩:=f;obtain⟨hy,d⟩:y.length<=sizeLine/\k=((y.length:Int) != 0):=e;subst d;exact PySem.P.truthy_str (zQ4 j hy) ⟨H,I.tok _,q⟩
 |byt y=>
  obtain⟨t,rfl⟩:=f;obtain⟨hy,d⟩:y.size<=sizeLine/\k=((y.size:Int) != 0):=e;subst d;exact PySem.W.truthy_bytes (zP4 j hy) ⟨H,I.tok _,q⟩
 |ref p=>
  cases f;have d:(∃xs,SqL X.K H p xs/\k=!xs.isEmpty)\/(∃xs,SqT X.K H p xs/\k=!xs.isEmpty)\/∃kvs,H p=some (.dK kvs)/\k=!kvs.isEmpty:=e;rcases d with⟨xs,g,d⟩|⟨xs,g,d⟩|⟨kvs,g,d⟩
  ·subst d;obtain⟨l,r,pl,hz⟩:=I.list g;have hlen:=r.length;exact wpAny_truthy_list pl.isList (by simp only[zZ0];exact cu j hlen hz) ⟨H,I.tok _,by rw[rq r];exact q⟩
  ·subst d;obtain⟨l,r,pl,hz⟩:=I.tuple g;have hlen:=r.length;exact truthy_tuple pl (by simp only[zZ0];exact cu j hlen hz) ⟨H,I.tok _,by rw[rq r];exact q⟩
  ·subst d;obtain⟨hz,n,vs,r,m⟩:kvs.length<=sizeLine/\(p == sysModules)=false/\∃vs,KV kvs vs/\s.heap.DictOf (zX X.prog X.w) p vs:=I.hok p _ g;have hlen:kvs.length=vs.length:=Paired.length r;exact wpAny_truthy_dict n m (cu j hlen hz) ⟨H,I.tok _,by rw[mW r];exact q⟩
 |_=>exact(show False from e).elim
theorem cj (ha:PE X a ta)(he:∀whole,isTrue a X.env whole=(do let v <-whole;standAt a.pos;holding [v] (truthy v))):
  PT X a (λσ H Q=>ta σ H λx H'=>∃k,zN9 X.K x H' k/\Q k H'):=by
 intro pins s σ H Q I h;exact isTrue_plain (thn (ha pins s σ H _ I h) λv s1 d=>by obtain⟨x,H1,g,e,f⟩:=d;exact zD5 pins s1 σ H1 x v Q g e f) (he _)
theorem lZ :OpR X (binaryOp .Add) (λx y H Q=>∃i j,x=.str i/\y=.str j/\i.length+j.length<=sizeLine/\Q (.str (i++j)) H):=by
 intro pins s σ H x y v u Q I e d h;obtain⟨i,j,rfl,rfl,hz,q⟩:=h;obtain⟨t,rfl⟩:=e;obtain⟨t',rfl⟩:=d;exact add_str (λt' tk=>⟨.str (i++j),H,I.tok _,⟨_,rfl⟩,q⟩) hz
theorem vals1 {x:V}{us:List Value}(r:Vals [x] us):∃u,us=[u]/\RelV x u:=by
 cases r with
 |cons d e=>cases e;exact⟨_,rfl,d⟩
theorem mw :yE X (.builtin "abs") (λxs H Q=>∃i,xs=[.int i]/\Q (.int (if i<0 then -i else i)) H):=by
 intro pins s σ H xs us Q I r h;obtain⟨i,rfl,q⟩:=h;obtain⟨u,rfl,t,rfl⟩:=vals1 r;exact call_abs_int λu tk=>⟨.int (if i<0 then -i else i),H,I.tok _,⟨_,rfl⟩,q⟩
theorem pe :yE X (.type "str") (λxs H Q=>∃i,xs=[.int i]/\i.natAbs.log2<1920/\Q (.str (toString i)) H):=by
 intro pins s σ H xs us Q I r h;obtain⟨i,rfl,hz,q⟩:=h;obtain⟨u,rfl,t,rfl⟩:=vals1 r;exact PySem.P.str_of_int hz ⟨.str _,H,I.tok _,⟨_,rfl⟩,q⟩
end
structure lA (h:Heap)(x dx C:Addr)(mA:Str->Option Value):Prop where
 obj:h.get? x=some (PySem.W.instObj C dx)
 ns:h.Ns1 dx mA
 ne:dx≠x
theorem gK {h:Heap}{dx:Addr}{mA:Str->Option Value}(n:h.Ns1 dx mA):∃od,h.get? dx=some od/\∀name,PySem.W.lookIn name od=some (mA name):=by
 obtain⟨o,c,g,f,hd,hk,_,hm⟩:=n;refine⟨o,f,λname=>?_⟩;have e:=hm name;unfold nsFind findBy at e;rw[<-Array.find?_toList]at e;unfold PySem.W.lookIn;rw[hd];dsimp only;split
 ·rename_i y q;rw[q]at e;exact congrArg some e
 ·rename_i q;rw[q]at e;have a:c.toList.any (·.refKey)=false:=by
   rw[List.any_eq_false];intro y hy;obtain⟨z,t,b⟩:=hk y (ya8.mp hy);simp[DictEntry.refKey,b]
  have d:¬c.toList.any (·.refKey)=true:=by rw[a];exact zZ8
  rw[if_neg d];exact congrArg some e
theorem lA.look {h:Heap}{x dx C:Addr}{mA:Str->Option Value}(I:lA h x dx C mA):∃od,PySem.W.InstAt h x (PySem.W.instObj C dx) C (some od)/\∀name,PySem.W.lookIn name od=some (mA name):=
 let⟨od,ho,hl⟩:=gK I.ns
 ⟨od,⟨I.obj,rfl,rfl,ho⟩,hl⟩
section
variable {prog:Program}{w:World}{A:Around}{E:Value->Shared->Prop}{s:Shared}{K:PySem.W.Frag}{x dx C f:Addr}{mA:Str->Option Value}{name:Str}{v:Value}
theorem get_map {expr:Bool}{Q:Value->Shared->Prop}(X:K.In s.heap)(I:lA s.heap x dx C mA)(hg:PySem.W.plainGet K C name=true)(d:PySem.W.hasDictIn K C=true)
  (ha:PySem.W.findIn K (.ref C) name=some none) (b:mA name=some v) (a:PySem.W.handedIn v=true) (h:Q v {s with toks:=s.toks+1}):
  wpAny (model prog w) A (getAttr (.ref x) name expr) Q E s:=by
 obtain⟨od,J,c⟩:=I.look;exact PySem.W.get_value X J (yg1 hg).1 (PySem.W.findObj_own d ha rfl (by rw[c,b])) a h
theorem za4 {pl:Sem Bool}{Q:Value×List Value->Shared->Prop}(X:K.In s.heap)(I:lA s.heap x dx C mA)(hg:PySem.W.plainGet K C name=true)
  (hf:PySem.W.findIn K (.ref C) name=some (some (.ref f))) (c:PySem.W.isFn K (.ref f)=true) (a:mA name=none) (h:Q (.ref f,[.ref x]) s):
  wpAny (model prog w) A (getMethod (.ref x) name pl) Q E s:=by
 obtain⟨od,J,b⟩:=I.look;exact PySem.W.method_fn X J (yg1 hg).1 (yg1 hg).2 hf (beq_iff_eq.mp c) (by show(PySem.W.lookIn name od).map (·.isSome)=some false;rw[b,a];rfl) h
theorem zn8 {ns:List Str}{Q:Unit->Shared->Prop}(X:K.In s.heap)(I:lA s.heap x dx C mA)
  (q:PySem.W.findIn K (.ref C) "__setattr__"=some (some (.builtin "object.__setattr__"))) (l:PySem.W.plainOver K C=true) (t:PySem.W.takerIn K C name=some none) (n:PySem.W.hasDictIn K C=true)
  (hw:PySem.Within mA ns) (hsz:ns.length<=sizeLine)
  (h:∀h',lA h' x dx C (λy=>if y=name then some v else mA y)->Heap.SameBut dx s.heap h'->Q () {s with heap:=h',toks:=s.toks+2}):
  wpAny (model prog w) A (setAttr (.ref x) name v) Q E s:=by
 obtain⟨od,J,u⟩:=I.look;refine PySem.W.set_plain X J q (PySem.W.osa_open (s:={s with toks:=s.toks+1}) (r:=none) X J l t λb=>?_);obtain⟨cd,p,i⟩:=PySem.W.any_some n;have m:s.heap.get? x=some ⟨.ref C,some dx,.plain,#[]⟩:=I.obj;refine zX1 (zY6 (zX1 (zX1 (wpAny_loadPart m (zX1 (PySem.W.Looks.here (s:={s with toks:=s.toks+1}) (PySem.W.looks_clsIn X p) ?_))))));rw[i];refine zY6 (a:=some dx) (zX1 (zY6 (zX1 ?_)));refine wpAny_nsSet1 (s:={s with toks:=s.toks+1}) I.ns λh' c d=>?_;obtain⟨oD,o,k,j,e,g⟩:=c.count (PySem.Within.cons name v hw);refine zX1 (wpAny_lookBehind j (by rw[e];exact pastItsLine_dict (zY1 g (by rw[zY7];exact Nat.add_le_add hsz (zX7 _)))) ?_);exact zY6 (h _ ⟨(d.2 _ (z09 I.ne)).trans I.obj,c,I.ne⟩ d)
theorem dw {R:Result->Shared->Prop}{vs:List Value}{kw:List (Str×Value)}(X:K.In s.heap)(hm:PySem.W.makesIn K C=true)
  (hi:PySem.W.findIn K (.ref C) "__init__"=some (some (.ref f))) (hf:PySem.W.typeIn K (.ref f)=some (.type "function"))
  (h:codeAny (model prog w) (A.under (.builtin "type.__call__" ⟨.ref C::vs,kw⟩)) (.call (.ref f) ⟨.ref (s.heap.objs.size+1)::vs,kw⟩) (PySem.W.InitBack (s.heap.objs.size+1) R)
   {s with heap:=(s.heap.push PySem.W.emptyDict).push (PySem.W.instObj C s.heap.objs.size)}):
  codeAny (model prog w) A (.call (.ref C) ⟨vs,kw⟩) R s:=by
 obtain⟨a,g,d,t,os⟩:=s;exact PySem.W.make_core (PySem.W.makes_of X hm) (PySem.W.looks_findIn X hi) (λself=>PySem.W.bind_fn X self hf) (.inl rfl) h
end
def xQ (f:Str)(v:V):List (Str×V)->List (Str×V)
 |[]=>[(f,v)]
 |(g,x)::r=>if g=f then(g,v)::r else(g,x)::xQ f v r
theorem uS (f g:Str)(v:V):∀fs:List (Str×V),(xQ f v fs).lookup g=if g=f then some v else fs.lookup g
 |[]=>by
  show List.lookup g [(f,v)]=_;by_cases h:g=f
  ·have hb:(g == f)=true:=beq_iff_eq.mpr h;simp only[List.lookup,hb,if_pos h]
  ·have hb:(g == f)=false:=z74.mpr h;simp only[List.lookup,hb,if_neg h]
 |(k,x)::r=>by
  have a:=uS f g v r;rw[show xQ f v ((k,x)::r)=(if k=f then(k,v)::r else(k,x)::xQ f v r)from rfl];by_cases hk:k=f
  ·rw[if_pos hk];by_cases h:g=k
   ·have hb:(g == k)=true:=beq_iff_eq.mpr h;simp only[List.lookup,hb,if_pos (h.trans hk)]
   ·have hb:(g == k)=false:=z74.mpr h;simp only[List.lookup,hb,if_neg (λe:g=f=>h (e.trans hk.symm))]
  ·rw[if_neg hk];by_cases h:g=k
   ·have hb:(g == k)=true:=beq_iff_eq.mpr h;simp only[List.lookup,hb,if_neg (λe:g=f=>hk (h.symm.trans e))]
   ·have hb:(g == k)=false:=z74.mpr h;simp only[List.lookup,hb];exact a
theorem uz (f:Str)(v:V):∀fs:List (Str×V),f∈(xQ f v fs).map (·.1)/\∀g,g∈fs.map (·.1)->g∈(xQ f v fs).map (·.1)
 |[]=>⟨by simp[xQ],λg h=>by simp at h⟩
 |(k,x)::r=>by
  obtain⟨i1,i2⟩:=uz f v r;rw[show xQ f v ((k,x)::r)=(if k=f then(k,v)::r else(k,x)::xQ f v r)from rfl];by_cases hk:k=f
  ·rw[if_pos hk];subst hk;exact⟨by simp,λg h=>by simpa using h⟩
  ·rw[if_neg hk];refine⟨?_,λg h=>?_⟩
   ·rw[zZ2];exact zX8 _ i1
   ·rw[zZ2]at h ⊢;rcases zX6.mp h with e|e
    ·exact zX6.mpr (.inl e)
    ·exact zX8 _ (i2 g e)
theorem uP (f:Str)(v:V):∀fs:List (Str×V),(xQ f v fs).length<=fs.length+1
 |[]=>by simp[xQ]
 |(k,x)::r=>by
  have a:=uP f v r;rw[show xQ f v ((k,x)::r)=(if k=f then(k,v)::r else(k,x)::xQ f v r)from rfl];by_cases hk:k=f
  ·rw[if_pos hk,zY7,zY7];exact zY8 _ _
  ·rw[if_neg hk,zY7,zY7];exact Nat.add_le_add a (zX7 _)
theorem vo.some_of {v:V}{o:Option Value}(r:vo (some v) o):∃u,o=some u/\RelV v u:=by
 cases o with
 |none=>exact(show False from r).elim
 |some u=>exact⟨u,rfl,r⟩
theorem vo.none_of {o:Option Value}(r:vo none o):o=none:=by
 cases o with
 |none=>rfl
 |some u=>exact(show False from r).elim
theorem gI {v:V}{u:Value}(r:RelV v u):PySem.W.handedIn u=true:=by
 cases v with
 |non=>cases(show u=Value.none from r);rfl
 |bl b=>cases(show u=Value.bool b from r);rfl
 |int i=>obtain⟨t,e⟩:=(show ∃t,u=Value.int i t from r);cases e;rfl
 |str x=>obtain⟨t,e⟩:=(show ∃t,u=Value.str x t from r);cases e;rfl
 |byt b=>obtain⟨t,e⟩:=(show ∃t,u=Value.bytes b t from r);cases e;rfl
 |flt b=>obtain⟨t,e⟩:=(show ∃t,u=Value.float b t from r);cases e;rfl
 |ref a=>cases(show u=Value.ref a from r);rfl
 |ty n=>cases(show u=Value.type n from r);rfl
section
variable {P:Program}{w:World}{H H':Hp}{h h':Heap}{a C dx:Addr}{fs fs':List (Str×V)}
theorem tK (hok:HOk P w H h)(e:H a=some (.ins C dx fs)):∃mA,lA h a dx C mA/\(∀f,vo (fs.lookup f) (mA f))/\PySem.Within mA (fs.map (·.1))/\fs.length<=1000/\H dx=some (.own a):=by
 obtain⟨d,z,ne,ob,mA,n,r,q⟩:=(show zE P w H h a (.ins C dx fs)from hok a _ e);exact⟨mA,⟨ob,n,ne⟩,r,q,z,d⟩
end
structure Cls (K:PySem.W.Frag)(C:Addr):Prop where
 pg:PySem.W.plainGet K C Str.empty=true
 hd:PySem.W.hasDictIn K C=true
 po:PySem.W.plainOver K C=true
 sa:PySem.W.findIn K (.ref C) "__setattr__"=some (some (.builtin "object.__setattr__"))
theorem Cls.get {K:PySem.W.Frag}{C:Addr}(c:Cls K C)(f:Str):PySem.W.plainGet K C f=true:=c.pg
def yy (K:PySem.W.Frag)(C:Addr)(f:Str):Prop:=PySem.W.findIn K (.ref C) f=some none
theorem yy.taker {K:PySem.W.Frag}{C:Addr}{f:Str}(n:yy K C f):PySem.W.takerIn K C f=some none:=by
 unfold PySem.W.takerIn;rw[show PySem.W.findIn K (.ref C) f=some none from n];rfl
structure Meth (K:PySem.W.Frag)(C:Addr)(m:Str)(f:Addr):Prop where
 at_:PySem.W.findIn K (.ref C) m=some (some (.ref f))
 fn:PySem.W.isFn K (.ref f)=true
 kp:PySem.W.keepIn K (.ref f)=true
section
variable {X:Cx}{pins:List (Addr×Obj)}{σ:St}{H:Hp}{s:Shared}{a C dx:Addr}{fs:List (Str×V)}{f:Str}{v:V}{A:Around}{E:Value->Shared->Prop}
theorem kC {b:Bool}{Q:Value->Shared->Prop}(I:Inv X pins σ H s)(e:H a=some (.ins C dx fs))(c:Cls X.K C)(n:yy X.K C f)(l:fs.lookup f=some v)
  (h:∀u s',Inv X pins σ H s'->RelV v u->Q u s'):wpAny (model X.prog X.w) A (getAttr (.ref a) f b) Q E s:=by
 obtain⟨mA,O,r,_,_,_⟩:=tK I.hok e;obtain⟨u,g,d⟩:=vo.some_of (v:=v) (o:=mA f) (by rw[<-l];exact r f);exact get_map I.kIn O (c.get f) c.hd n g (gI d) (h u _ (I.tok _) d)
theorem vF {m:Str}{g:Addr}{pl:Sem Bool}{Q:Value×List Value->Shared->Prop}(I:Inv X pins σ H s)(e:H a=some (.ins C dx fs))(c:Cls X.K C)(k:Meth X.K C m g)(l:fs.lookup m=none)
  (h:Q (.ref g,[.ref a]) s):wpAny (model X.prog X.w) A (getMethod (.ref a) m pl) Q E s:=by
 obtain⟨mA,O,r,_,_,_⟩:=tK I.hok e;have hn:mA m=none:=vo.none_of (by rw[<-l];exact r m);exact za4 I.kIn O (c.get m) k.at_ k.fn hn h
theorem lr {y:V}{u:Value}{Q:Unit->Shared->Prop}(I:Inv X pins σ H s)(e:H a=some (.ins C dx fs))(c:Cls X.K C)(n:yy X.K C f)(m:fs.length<1000)(k:RelV y u)
  (h:∀s',Inv X pins σ (upd H a (.ins C dx (xQ f y fs))) s'->Q () s'):wpAny (model X.prog X.w) A (setAttr (.ref a) f u) Q E s:=by
 obtain⟨mA,O,r,i,_,j⟩:=tK I.hok e;have hz:(fs.map (·.1)).length<=sizeLine:=by rw[zX0,z41];lia
 refine zn8 I.kIn O c.sa c.po n.taker c.hd i hz λh' d l=>h _ ?_;have hd:∃o,h'.get? dx=some o:=let⟨o,_,_,e',_⟩:=d.ns;⟨o,e'⟩;refine I.write (x:=a) (e:=dx) (by rw[e];exact True.intro) (.inr j) (λb q hb z=>(l.2 b hb).trans z) hd ?_;refine⟨by rw[zb O.ne];exact j,?_,O.ne,d.obj,_,d.ns,λg=>?_,λg hg=>?_⟩
 ·have:=uP f y fs;exact zY1 this m
 ·show vo ((xQ f y fs).lookup g) (if g=f then some u else mA g);rw[uS];by_cases q:g=f
  ·rw[if_pos q,if_pos q];exact k
  ·rw[if_neg q,if_neg q];exact r g
 ·by_cases q:g=f
  ·rw[q];exact(uz f y fs).1
  ·refine(uz f y fs).2 g (i g λz=>hg ?_);show(if g=f then some u else mA g)=none;rw[if_neg q];exact z
theorem Inv.made (I:Inv X pins σ H s):Inv X pins σ (upd (upd H s.heap.objs.size (.own (s.heap.objs.size+1))) (s.heap.objs.size+1) (.ins C s.heap.objs.size []))
  {s with heap:=(s.heap.push PySem.W.emptyDict).push (PySem.W.instObj C s.heap.objs.size)}:=by
 have e1:(s.heap.push PySem.W.emptyDict).get? s.heap.objs.size=some PySem.W.emptyDict:=zY5 s.heap rfl;have c:((s.heap.push PySem.W.emptyDict).push (PySem.W.instObj C s.heap.objs.size)).get? (s.heap.objs.size+1)=some (PySem.W.instObj C s.heap.objs.size):=by
  have:=zY5 (s.heap.push PySem.W.emptyDict) (o:=PySem.W.instObj C s.heap.objs.size) rfl
  rwa [z44]at this
 have d:(s.heap.push PySem.W.emptyDict).Ns s.heap.objs.size (λ_=>none):=⟨PySem.W.emptyDict,#[],_,e1,rfl,(λe he=>absurd he (by simp)),λ_=>rfl⟩;have g:=I.laid (a:=s.heap.objs.size) (o:=.own (s.heap.objs.size+1)) (h':=s.heap.push PySem.W.emptyDict) (t':=s.toks) (λb u q=>zX2 _ q) (zX7 _) ⟨_,e1⟩;refine g.laid (a:=s.heap.objs.size+1) (o:=.ins C s.heap.objs.size []) (t':=s.toks) (λb u q=>zX2 _ q) (zZ3 (z44 _ _)) ?_;have ne:s.heap.objs.size≠s.heap.objs.size+1:=zZ6 (z34 _);refine⟨by rw[zb ne,zi],zY9 _,ne,c,λ_=>none,(Heap.Ns1.of_empty d).at λo q=>zX2 _ q,λ_=>True.intro,λy hy=>absurd rfl hy⟩
theorem zo9 {prog:Program}{w:World}{env:Env}{e:Expr}{f:Str}{pos:Pos}{s:Shared}{Q:Value->Shared->Prop}(hb:attributeBase e f env (eval e env)=eval e env)
  (h:wpAny (model prog w) A (eval e env) (λo b=>wpAny (model prog w) A (getAttr o f true) Q E b) E s):wpAny (model prog w) A (eval (.Attribute e f pos) env) Q E s:=
 Attribute_any_ h (by rw[arm_eval_Attribute,hb])
end
def zS0 (K:PySem.W.Frag)(b:TE)(f:Str):TE:=λσ H Q=>b σ H λx H1=>∃a C dx fs v,x=.ref a/\H1 a=some (.ins C dx fs)/\Cls K C/\yy K C f/\fs.lookup f=some v/\Q v H1
def zV4 (K:PySem.W.Frag)(d c:TE)(f:Str):TS:=λD σ H=>c σ H λy H1=>d σ H1 λx b=>∃a C dx fs,x=.ref a/\b a=some (.ins C dx fs)/\Cls K C/\yy K C f/\fs.length<1000/\
 D.nx σ (upd b a (.ins C dx (xQ f y fs)))
section
variable {X:Cx}{o e value:Expr}{f:Str}{pos pos' tpos:Pos}{ta tv:TE}
theorem zC9 (he:PE X e ta)(hb:attributeBase e f X.env (eval e X.env)=eval e X.env):PE X (.Attribute e f pos) (zS0 X.K ta f):=by
 intro pins s σ H Q I h;refine zo9 hb (thn (he pins s σ H _ I h) λu s1 b=>?_);obtain⟨x,H1,g,i,a,C,dx,fs,v,ex,k,c,n,l,q⟩:=b;subst ex;obtain rfl:u=Value.ref a:=i;exact kC g k c n l λm s2 j d=>⟨v,H1,j,d,q⟩
theorem pZ (ha:PE X o ta)(d:PE X value tv)(i:swapsWith value (some (.Attribute o f pos')) pos.line X.env=pure false):PS X (.Assign [.Attribute o f pos'] value pos) (zV4 X.K ta tv f):=by
 intro pins s σ H D I h;refine plainObj_wpAny_Assign_Attribute (thn (d pins s σ H _ I h) λu s1 ⟨y,H1,j,b,q⟩=>thn (ha pins s1 σ H1 _ j q) λm s2 ⟨x,v,p,k,a,C,dx,fs,ex,r,c,n,l,g⟩=>?_) i;subst ex;obtain rfl:m=Value.ref a:=k;exact lr p r c n l b λs3 t=>⟨σ,_,t,g⟩
theorem zu8 {pl:Sem Bool}{m:Str}{apos:Pos}{args:List Expr}{pins:List (Addr×Obj)}{s:Shared}{σ:St}{H:Hp}{Q:Value->Shared->Prop}{d:TE}(he:PE X e d)(I:Inv X pins σ H s)
  (h:d σ H λx H1=>∃a C dx fs g,x=.ref a/\H1 a=some (.ins C dx fs)/\Cls X.K C/\Meth X.K C m g/\fs.lookup m=none/\
   ∀s1,Inv X pins σ H1 s1->wpAny (model X.prog X.w) X.A (callWith pos (.ref g) [.ref a] (backTo pos (starEach args X.env)) (backToKw pos (keywordEach [] X.env))) Q X.xe s1)
  (j:eval (.Call (.Attribute e m apos) args [] pos) X.env=(do
   let ov <-eval e X.env
   standAt apos.atName
   let(f,first) <-holding [ov] (getMethod ov m pl)
   callWith pos f first (backTo pos (starEach args X.env)) (backToKw pos (keywordEach [] X.env)))):
  wpAny (model X.prog X.w) X.A (eval (.Call (.Attribute e m apos) args [] pos) X.env) Q X.xe s:=by
 refine ye5 (pl:=pl) (thn (he pins s σ H _ I h) λu s1 b=>?_) j;obtain⟨x,H1,i,p,a,C,dx,fs,g,ex,n,c,k,l,q⟩:=b;subst ex;obtain rfl:u=Value.ref a:=p;exact vF i n c k l (q s1 i)
end
section
variable {X:Cx}{pins:List (Addr×Obj)}{σ:St}{H:Hp}{s:Shared}{A:Around}{E:Value->Shared->Prop}{Q:Value->Shared->Prop}{c:Value}{b:Bool}
inductive vV (K:PySem.W.Frag)(H:Hp):V->Value->Prop where
 |non:vV K H .non (.type "NoneType")
 |bl (x:Bool):vV K H (.bl x) (.type "bool")
 |int (i:Int):vV K H (.int i) (.type "int")
 |str (x:Str):vV K H (.str x) (.type "str")
 |flt (x:UInt64):vV K H (.flt x) (.type "float")
 |lst {a:Addr}{xs:List V} (e:H a=some (.lst xs)):vV K H (.ref a) (.type "list")
 |frz {a:Addr}{o:Obj}{xs:List V} (e:H a=some (.frz o (.lst xs))):vV K H (.ref a) (.type "list")
 |tup {a:Addr}{xs:List V} (e:H a=some (.tup xs)):vV K H (.ref a) (.type "tuple")
 |dK {a:Addr}{kvs:List (Key×V)} (e:H a=some (.dK kvs)):vV K H (.ref a) (.type "dict")
 |dT {a:Addr}{kvs:List (List Key×V)} (e:H a=some (.dT kvs)):vV K H (.ref a) (.type "dict")
 |ins {a C dx:Addr}{fs:List (Str×V)} (e:H a=some (.ins C dx fs)) (cl:Cls K C) (ha:PySem.W.findIn K (.ref C) "__class__"=some (some (.builtin "object.__class__")))
   (hn:PySem.W.specialIn K (.builtin "object.__class__") "__get__"=some (some (.builtin "getset_descriptor.__get__"))) (htk:PySem.W.takesIn K (.builtin "object.__class__")=some true)
   (hm:PySem.W.mroIn K C (.type "object")=some true):vV K H (.ref a) (.ref C)
theorem fV {x:V}{u t:Value}(I:Inv X pins σ H s)(d:RelV x u)(ty:vV X.K H x t)(e:PySem.W.kitOne X.K t c=some b)(h:∀tk,Q (.bool b) {s with toks:=tk}):
  wpAny (model X.prog X.w) A (call (.builtin "isinstance") [u,c]) Q E s:=by
 cases ty with
 |non=>cases(show u=Value.none from d);exact z47 PySem.W.kitx_none I.kIn True.intro e (λz=>nomatch z) h
 |bl y=>cases(show u=Value.bool y from d);exact z47 PySem.W.kitx_bool I.kIn True.intro e (λz=>nomatch z) h
 |int i=>obtain⟨t,q⟩:=(show ∃t,u=Value.int i t from d);cases q;exact z47 PySem.W.kitx_int I.kIn True.intro e (λz=>nomatch z) h
 |str y=>obtain⟨t,q⟩:=(show ∃t,u=Value.str y t from d);cases q;exact z47 PySem.W.kitx_str I.kIn True.intro e (λz=>nomatch z) h
 |flt y=>obtain⟨t,q⟩:=(show ∃t,u=Value.float y t from d);cases q;exact z47 PySem.W.kitx_float I.kIn True.intro e (λz=>nomatch z) h
 |@lst a xs ea=>
  cases(show u=Value.ref a from d);obtain⟨_,_,n,_,h1⟩:=(show zE X.prog X.w H s.heap a (.lst xs)from I.hok a _ ea);exact z47 PySem.W.kitx_list I.kIn ⟨_,h1,rfl⟩ e (λz=>nomatch z) h
 |@frz a ob xs ea=>
  cases(show u=Value.ref a from d);obtain⟨_,_,_,n,_,h1⟩:=(show zE X.prog X.w H s.heap a (.frz ob (.lst xs))from I.hok a _ ea);exact z47 PySem.W.kitx_list I.kIn ⟨_,h1,rfl⟩ e (λz=>nomatch z) h
 |@tup a xs ea=>
  cases(show u=Value.ref a from d);obtain⟨_,_,_,p⟩:=(show zE X.prog X.w H s.heap a (.tup xs)from I.hok a _ ea);obtain⟨o,h1,h2,_⟩:=p;exact z47 PySem.W.kitx_tuple I.kIn ⟨o,h1,h2⟩ e (λz=>nomatch z) h
 |@dK a kvs ea=>
  cases(show u=Value.ref a from d);obtain⟨_,_,vs,_,p⟩:=(show zE X.prog X.w H s.heap a (.dK kvs)from I.hok a _ ea);obtain⟨o,g,f,h1,h2,_⟩:=p;exact z47 PySem.W.kitx_dict I.kIn ⟨o,h1,h2.1⟩ e (λz=>nomatch z) h
 |@dT a kvs ea=>
  cases(show u=Value.ref a from d);obtain⟨_,_,xs,_,o,g,f,h1,h2,_⟩:=(show zE X.prog X.w H s.heap a (.dT kvs)from I.hok a _ ea);exact z47 PySem.W.kitx_dict I.kIn ⟨o,h1,h2.1⟩ e (λz=>nomatch z) h
 |@ins a C dx fs ea cl ha hn htk hm=>
  cases(show u=Value.ref a from d);obtain⟨mA,O,_⟩:=tK I.hok ea;obtain⟨od,J,_⟩:=O.look;exact z47 (PySem.W.kitx_own (cl.get _) cl.hd ha hn htk hm) I.kIn J e (λz=>nomatch z) h
end
structure zM (k:Nat)(A:Around):Prop where
 hd:A.handled=none
 dp:A.depth+3*k+5<recursionLimit
 un:A.units+16*k+200<cLine
 gd:A.guards=some []
theorem zM.mono {j k:Nat}{A:Around}(r:zM k A)(h:j<=k):zM j A:=⟨r.hd,by have:=r.dp;lia,by have:=r.un;lia,r.gd⟩
theorem zM.deeper {k:Nat}{A:Around}(r:zM (k+1) A)(env:Env):zM k (A.deeper env):=
 ⟨r.hd,by have:=r.dp;show A.depth+1+3*k+5<_;exact zs4 this,by have:=r.un;show A.units+3+16*k+200<_;lia,r.gd⟩
theorem zM.in1 {k:Nat}{A:Around}(r:zM (k+1) A):zM k A.in1:=
 ⟨r.hd,by have:=r.dp;show A.depth+3*k+5<_;lia,by have:=r.un;show A.units+1+16*k+200<_;exact zv8 this,r.gd⟩
theorem ku {A:Around}{C:Addr}{us:List Value}{kw:List (Str×Value)}:(A.under (.builtin "type.__call__" ⟨.ref C::us,kw⟩)).depth=A.depth+1:=by
 first|rfl|simp[Around.under,Code.weight,Code.isCreation,Code.isGuard,Code.isCaller,Code.frames,Code.isFrame,guardIds]
theorem kG {A:Around}{C:Addr}{us:List Value}{kw:List (Str×Value)}:(A.under (.builtin "type.__call__" ⟨.ref C::us,kw⟩)).units=A.units+1:=by
 first|rfl|simp[Around.under,Code.cUnits,Code.frames,Code.isFrame]
theorem nA {A:Around}{C:Addr}{us:List Value}{kw:List (Str×Value)}:(A.under (.builtin "type.__call__" ⟨.ref C::us,kw⟩)).guards=A.guards:=by
 first|rfl|simp[Around.under,Code.guards,Code.isGuard,guardIds,pushGuards]
theorem zM.make {k:Nat}{A:Around}(r:zM (k+1) A)(C:Addr)(us:List Value)(kw:List (Str×Value)):zM k (A.under (.builtin "type.__call__" ⟨.ref C::us,kw⟩)):=
 ⟨r.hd,by have:=r.dp;rw[ku];exact zs4 this,by have:=r.un;rw[kG];exact zv8 this,(nA (A:=A)).trans r.gd⟩
theorem zM.depth {k:Nat}{A:Around}(r:zM k A):A.depth<recursionLimit:=by have:=r.dp;exact zZ5 (zY8 _ _) (zZ5 (zY8 _ _) this)
theorem zM.units {k:Nat}{A:Around}(r:zM k A):A.units+64<cLine:=by have:=r.un;lia
def zP3 :TA:=λ_ H Q=>Q [] H
def zJ7 (a:TE)(tr:TA):TA:=λσ H Q=>a σ H λx H1=>tr σ H1 λxs b=>Q (x::xs) b
section
variable {X:Cx}{e:Expr}{es:List Expr}{te:TE}{t:TA}{pos:Pos}
theorem zD :PA X [] zP3:=λ_ _ _ _ H Q I h=>Calls.spliced_nil ⟨[],H,I,.nil,h⟩
theorem zr (ha:PE X e te)(hr:PA X es t)(f:starEach (e::es) X.env=(false,eval e X.env)::starEach es X.env:=by rfl):PA X (e::es) (zJ7 te t):=by
 intro pos pins s σ H Q I h;rw[f];show wpAny _ _ (spliced ((false,eval e X.env)::backTo pos (starEach es X.env))) _ _ s;refine Calls.spliced_cons (thn (ha pins s σ H _ I h) λu s1 a=>?_);obtain⟨x,H1,j,g,i⟩:=a;exact thn (hr pos pins s1 σ H1 _ j i) λus s2 b=>by obtain⟨xs,k,l,d,c⟩:=b;exact⟨x::xs,k,l,.cons g d,c⟩
def zV0 (t:TA):TE:=λσ H Q=>t σ H λxs H1=>xs.length<=sizeLine/\∀p,H1 p=none->Q (.ref p) (upd H1 p (.tup xs))
def zT8 (t:TA):TE:=λσ H Q=>t σ H λxs H1=>xs.length<=sizeLine/\∀p,H1 p=none->Q (.ref p) (upd H1 p (.lst xs))
theorem lu {x1}(h:PA X es t):PE X (.Tuple es x1 pos) (zV0 t):=by
 intro pins s σ H Q I hq;refine wpAny_Tuple_spliced (thn (h pos pins s σ H _ I hq) λus s1 ⟨xs,H1,a,r,z,q⟩=>⟨by rw[<-r.length];exact z,?_⟩);have hf:H1 s1.heap.objs.size=none:=a.hok.fresh (zX7 _);refine⟨.ref s1.heap.objs.size,upd H1 s1.heap.objs.size (.tup xs),a.laid (t':=s1.toks) (λb u e=>zX2 _ e) (zX7 _) ?_,rfl,q _ hf⟩;exact⟨z,us,r,⟨_,zY5 _ rfl,rfl,_,rfl⟩⟩
theorem zc1 (h:PA X es t):PE X (.List es pos) (zT8 t):=by
 intro pins s σ H Q I hq;refine wpAny_List_spliced (thn (h pos pins s σ H _ I hq) λus s1 ⟨xs,H1,a,r,z,q⟩=>⟨by rw[<-r.length];exact z,?_⟩);have hf:H1 s1.heap.objs.size=none:=a.hok.fresh (zX7 _);refine⟨.ref s1.heap.objs.size,upd H1 s1.heap.objs.size (.lst xs),a.laid (t':=s1.toks) (λb u e=>zX2 _ e) (zX7 _) ?_,rfl,q _ hf⟩;exact⟨z,us,0,r,zY5 _ rfl⟩
end
abbrev Sp :=List V->Hp->VK->XK->Prop
abbrev CXT :=List Env->Hp->Shared->XK->Value->Shared->Prop
structure uB (P:Program)(w:World)(K:PySem.W.Frag)(mg:Str->Option Value)(base:Heap)(A:Around)(outer:List Env)(s:Shared)(H:Hp):Prop where
 frames:A.frames=some outer
 mod:Mod K mg base
 bs:∀b o,base.get? b=some o->s.heap.get? b=some o/\H b=none
 bsz:base.objs.size<=s.heap.objs.size
 funs:s.heap.FunFrames base outer
 frf:∀b∈frs outer,H b=none
 hok:HOk P w H s.heap
 bare:AllBare s.gens
def CE (outer:List Env)(P:Program)(w:World)(H:Hp)(s:Shared)(Q:VK)(u:Value)(s':Shared):Prop:=
 ∃v H',s'.os=s.os/\AllBare s'.gens/\Un (frs outer) [] H H' s.heap s'.heap/\HOk P w H' s'.heap/\RelV v u/\Q v H'
def CR (CX:CXT)(outer:List Env)(P:Program)(w:World)(H:Hp)(s:Shared)(Q:VK)(E:XK)(r:Result)(s':Shared):Prop:=
 match r with
 |.ok (.ret u)=>CE outer P w H s Q u s'
 |.ok _=>False
 |.error e=>CX outer H s E e s'
structure yC (P:Program)(w:World)(K:PySem.W.Frag)(mg:Str->Option Value)(base:Heap)(CX:CXT)(k:Nat)(f:Addr)(fd:FuncData)(ps:List Str)(sp:Sp):Prop where
 len:∀vs H Q E,sp vs H Q E->vs.length=ps.length
 run:∀(A:Around) (outer:List Env) (s:Shared) (H:Hp) (args:Args) (us:List Value) (vs:List V) (Q:VK) (E:XK),zM k A->uB P w K mg base A outer s H->BindsTo s fd args (ps.zip us)->Vals vs us->sp vs H Q E->
  codeAny (model P w) A (.call (.ref f) args) (CR CX outer P w H s Q E) s
theorem yC.imp {P:Program}{w:World}{K:PySem.W.Frag}{mg:Str->Option Value}{base:Heap}{CX:CXT}{k:Nat}{f:Addr}{fd:FuncData}{ps:List Str}{sp a:Sp}(F:yC P w K mg base CX k f fd ps sp)
  (h:∀vs H Q E,a vs H Q E->sp vs H Q E):yC P w K mg base CX k f fd ps a:=
 ⟨λvs H Q E q=>F.len vs H Q E (h _ _ _ _ q),λA outer s H args us vs Q E hr he hb b c=>F.run A outer s H args us vs Q E hr he hb b (h _ _ _ _ c)⟩
theorem uB.make {P:Program}{w:World}{K:PySem.W.Frag}{mg:Str->Option Value}{base:Heap}{A:Around}{outer:List Env}{s:Shared}{H:Hp}(e:uB P w K mg base A outer s H)(C:Addr)(us:List Value)(kw:List (Str×Value)):
  uB P w K mg base (A.under (.builtin "type.__call__" ⟨.ref C::us,kw⟩)) outer s H:=⟨by first|exact e.frames|(simpa[Around.under,Code.envs,Code.isFrame,pushEnvs]using e.frames),e.mod,e.bs,e.bsz,e.funs,e.frf,e.hok,e.bare⟩
theorem uB.in1 {P:Program}{w:World}{K:PySem.W.Frag}{mg:Str->Option Value}{base:Heap}{A:Around}{outer:List Env}{s:Shared}{H:Hp}(e:uB P w K mg base A outer s H):
  uB P w K mg base A.in1 outer s H:=⟨e.frames,e.mod,e.bs,e.bsz,e.funs,e.frf,e.hok,e.bare⟩
section
variable {X:Cx}{pins:List (Addr×Obj)}{σ:St}{H:Hp}{s s':Shared}
theorem Inv.env0 (I:Inv X pins σ H s):uB X.prog X.w X.K X.mg X.base X.A X.stack s H:=
 ⟨I.ok.frames,I.ok.mod,I.bs,zY1 I.ok.bsz I.sz,I.stack,I.stkFree,I.hok,I.bare⟩
theorem Inv.after {Q:VK}{u:Value}(I:Inv X pins σ H s)(h:CE X.stack X.prog X.w H s Q u s'):EP X pins σ Q u s':=by
 obtain⟨v,H',os,bare,un,hok,r,q⟩:=h;obtain⟨c,g,d,t,a⟩:=s';obtain rfl:a=s.os:=os;exact⟨v,H',I.call (h':=c) (g':=g) (d':=d) (t':=t) (ch:=[]) un hok bare (λb z=>absurd z (by simp)),r,q⟩
end
def zP9 (sp:Sp)(dvs:List V)(E:XK)(t:TA):TE:=λσ H Q=>t σ H λvs H1=>sp (vs++dvs) H1 Q E
def zw0 (C:Addr)(m:Str)(sp:Sp)(dvs:List V)(E:XK)(b:TE)(t:TA):TE:=λσ H Q=>b σ H λx H1=>∃a dx fs,x=.ref a/\H1 a=some (.ins C dx fs)/\fs.lookup m=none/\
 t σ H1 λvs c=>sp (x::(vs++dvs)) c Q E
def zQ7 (C:Addr)(sp:Sp)(dvs:List V)(E:XK)(t:TA):TE:=λσ H Q=>t σ H λvs H1=>∀x dx,H1 x=none->H1 dx=none->dx≠x->
 sp (.ref x::(vs++dvs)) (upd (upd H1 dx (.own x)) x (.ins C dx [])) (λv a=>v=.non/\Q (.ref x) a) E
def Binds (K:PySem.W.Frag)(fd:FuncData)(ps:List Str)(ds:List Value):Prop:=
 ∀(s:Shared) (us:List Value),K.In s.heap->(us++ds).length=ps.length->BindsTo s fd ⟨us,[]⟩ (ps.zip (us++ds))
theorem Binds.all {K:PySem.W.Frag}{fd:FuncData}{ps:List Str}(h:∀us:List Value,us.length=ps.length->bindArgs fd ⟨us,[]⟩=pure (ps.zip us)):Binds K fd ps []:=λs us _ a=>by
 rw[z39]at a ⊢;exact .of_eq (h us a)
def Passes (CX:CXT)(X:Cx)(E:XK):Prop:=∀(pins:List (Addr×Obj)) (σ:St) (H:Hp) (s:Shared) (e:Value) (s':Shared),Inv X pins σ H s->CX X.stack H s E e s'->X.xe e s'
section
variable {X:Cx}{CX:CXT}{k:Nat}{f C:Addr}{fd:FuncData}{ps:List Str}{sp:Sp}{dvs:List V}{ds:List Value}{E:XK}{x m:Str}{p pos apos:Pos}{e o:Expr}{es:List Expr}{ta:TE}{t:TA}
theorem lP {pins:List (Addr×Obj)}{σ:St}{H:Hp}{s:Shared}{Q:VK}{us:List Value}{vs:List V}(F:yC X.prog X.w X.K X.mg X.base CX k f fd ps sp)(hr:zM k X.A)(hb:Binds X.K fd ps ds)(hd:Vals dvs ds)(b:Passes CX X E)
  (I:Inv X pins σ H s) (r:Vals vs us) (h:sp (vs++dvs) H Q E):wpAny (model X.prog X.w) X.A (call (.ref f) us) (EP X pins σ Q) X.xe s:=by
 have a:Vals (vs++dvs) (us++ds):=r.append hd;have c:(us++ds).length=ps.length:=by rw[<-a.length];exact F.len _ _ _ _ h
 refine wpAny_call (yf1 (F.run X.A X.stack s H ⟨us,[]⟩ (us++ds) (vs++dvs) Q E hr I.env0 (hb s us I.kIn c) a h) λr s' hq=>?_);cases r with
 |error e=>exact b pins σ H s e s' I hq
 |ok d=>
  cases d with
  |ret u=>exact I.after hq
  |next=>exact False.elim hq
  |brk=>exact False.elim hq
  |cont=>exact False.elim hq
theorem pC (F:yC X.prog X.w X.K X.mg X.base CX k f fd ps sp)(hr:zM k X.A)(hg:Gl X x)(hm:X.mg x=some (.ref f))(hk:PySem.W.keepIn X.K (.ref f)=true)(hb:Binds X.K fd ps ds)(hd:Vals dvs ds)(d:Passes CX X E)
  (ha:PA X (e::es) t) (b:(x == ("__debug__":Str))=false:=by decide) (he:starEach (e::es) X.env=(false,eval e X.env)::starEach es X.env:=by rfl) (hpl:(backTo pos (starEach es X.env)).any (·.1)=false:=by rfl):
  PE X (.Call (.Name x p) (e::es) [] pos) (zP9 sp dvs E t):=by
 intro pins s σ H Q I h;refine z93 (tO I hg hm ?_ b);refine yg5 (h₀:=X.base) I.ok.mod.kin hk (thn (ha pos pins s σ H _ I h) λus s1 a=>?_) he hpl;obtain⟨vs,H1,c,r,q⟩:=a;refine⟨c.kIn,?_⟩;exact lP F hr hb hd d c r q
theorem zk3 {pl:Sem Bool}(he:PE X o ta)(c:Cls X.K C)(hm:Meth X.K C m f)(F:yC X.prog X.w X.K X.mg X.base CX k f fd ps sp)(hr:zM k X.A)(hb:Binds X.K fd ps ds)(hd:Vals dvs ds)(z:Passes CX X E)(ha:PA X (e::es) t)
  (g:starEach (e::es) X.env=(false,eval e X.env)::starEach es X.env:=by rfl) (hpl:(backTo pos (starEach es X.env)).any (·.1)=false:=by rfl)
  (n:eval (.Call (.Attribute o m apos) (e::es) [] pos) X.env=(do
   let ov <-eval o X.env
   standAt apos.atName
   let(f,first) <-holding [ov] (getMethod ov m pl)
   callWith pos f first (backTo pos (starEach (e::es) X.env)) (backToKw pos (keywordEach [] X.env))):=by rfl):
  PE X (.Call (.Attribute o m apos) (e::es) [] pos) (zw0 C m sp dvs E ta t):=by
 intro pins s σ H Q I h;refine ye5 (pl:=pl) (thn (he pins s σ H _ I h) λu s1 b=>?_) n;obtain⟨x,H1,j,B,a,dx,fs,ex,v,l,q⟩:=b;subst ex;obtain rfl:u=Value.ref a:=B;refine vF j v c hm l ?_;refine yg5 (first:=[.ref a]) (h₀:=X.base) I.ok.mod.kin hm.kp (thn (ha pos pins s1 σ H1 _ j q) λus s2 d=>?_) g hpl;obtain⟨vs,D,i,r,y⟩:=d;refine⟨i.kIn,?_⟩;exact lP (us:=.ref a::us) (vs:=.ref a::vs) F hr hb hd z i (.cons rfl r) y
theorem mj {pl:Sem Bool}(he:PE X o ta)(c:Cls X.K C)(hm:Meth X.K C m f)(F:yC X.prog X.w X.K X.mg X.base CX k f fd ps sp)(hr:zM k X.A)(hb:Binds X.K fd ps ds)(hd:Vals dvs ds)(g:Passes CX X E)
  (j:eval (.Call (.Attribute o m apos) [] [] pos) X.env=(do
   let ov <-eval o X.env
   standAt apos.atName
   let(f,first) <-holding [ov] (getMethod ov m pl)
   callWith pos f first (backTo pos (starEach [] X.env)) (backToKw pos (keywordEach [] X.env))):=by rfl):
  PE X (.Call (.Attribute o m apos) [] [] pos) (zw0 C m sp dvs E ta zP3):=by
 intro pins s σ H Q I h;refine ye5 (pl:=pl) (thn (he pins s σ H _ I h) λu s1 b=>?_) j;obtain⟨x,H1,d,i,a,dx,fs,ex,n,l,q⟩:=b;subst ex;obtain rfl:u=Value.ref a:=i;refine vF d n c hm l ?_;exact PySem.W.callWith_K0 (first:=[.ref a]) d.kIn hm.kp (lP (us:=[.ref a]) (vs:=[.ref a]) F hr hb hd g d (.cons rfl .nil) q)
structure Mk (K:PySem.W.Frag)(C f:Addr):Prop where
 makes:PySem.W.makesIn K C=true
 init:PySem.W.findIn K (.ref C) "__init__"=some (some (.ref f))
 fn:PySem.W.isFn K (.ref f)=true
 kp:PySem.W.keepIn K (.ref C)=true
theorem dz {pins:List (Addr×Obj)}{σ:St}{H:Hp}{s:Shared}{Q:VK}{us:List Value}{vs:List V}(M:Mk X.K C f)(F:yC X.prog X.w X.K X.mg X.base CX k f fd ps sp)(hr:zM (k+1) X.A)(hb:Binds X.K fd ps ds)(hd:Vals dvs ds)
  (n:Passes CX X E) (I:Inv X pins σ H s) (r:Vals vs us)
  (h:∀x dx,H x=none->H dx=none->dx≠x->sp (.ref x::(vs++dvs)) (upd (upd H dx (.own x)) x (.ins C dx [])) (λv j=>v=.non/\Q (.ref x) j) E):
  wpAny (model X.prog X.w) X.A (call (.ref C) us) (EP X pins σ Q) X.xe s:=by
 have hq:=h (s.heap.objs.size+1) s.heap.objs.size (I.hok.fresh (z76 _)) (I.hok.fresh (zX7 _)) (zZ6 (z34 _));have b:=Inv.made (C:=C) I;have c:Vals (V.ref (s.heap.objs.size+1)::(vs++dvs)) (Value.ref (s.heap.objs.size+1)::(us++ds)):=.cons rfl (r.append hd);have d:(Value.ref (s.heap.objs.size+1)::us++ds).length=ps.length:=by
  have e:=c.length;rw[F.len _ _ _ _ hq]at e;exact e.symm
 refine wpAny_call (dw (f:=f) I.kIn M.makes M.init (beq_iff_eq.mp M.fn) (yf1 (F.run _ X.stack _ _ ⟨Value.ref (s.heap.objs.size+1)::us,[]⟩ (Value.ref (s.heap.objs.size+1)::(us++ds)) _ _ E (hr.make C us [])
  (b.env0.make C us []) (hb _ (Value.ref (s.heap.objs.size+1)::us) b.kIn d) c hq) λr s' a=>?_))
 cases r with
 |error e=>exact n pins σ _ _ e s' b a
 |ok g=>
  cases g with
  |ret u=>
   obtain⟨v,H',q,i,ev,l⟩:=b.after a;subst ev;exact⟨i,⟨V.ref (s.heap.objs.size+1),H',q,rfl,l⟩⟩
  |next=>exact False.elim a
  |brk=>exact False.elim a
  |cont=>exact False.elim a
theorem zg3 (M:Mk X.K C f)(F:yC X.prog X.w X.K X.mg X.base CX k f fd ps sp)(hr:zM (k+1) X.A)(hg:Gl X x)(hm:X.mg x=some (.ref C))(hb:Binds X.K fd ps ds)(hd:Vals dvs ds)(d:Passes CX X E)
  (ha:PA X (e::es) t) (b:(x == ("__debug__":Str))=false:=by decide) (he:starEach (e::es) X.env=(false,eval e X.env)::starEach es X.env:=by rfl) (hpl:(backTo pos (starEach es X.env)).any (·.1)=false:=by rfl):
  PE X (.Call (.Name x p) (e::es) [] pos) (zQ7 C sp dvs E t):=by
 intro pins s σ H Q I h;refine z93 (tO I hg hm ?_ b);refine yg5 (h₀:=X.base) I.ok.mod.kin M.kp (thn (ha pos pins s σ H _ I h) λus s1 a=>?_) he hpl;obtain⟨vs,H1,c,r,q⟩:=a;refine⟨c.kIn,?_⟩;exact dz M F hr hb hd d c r q
end
section
variable {X:Cx}{CX:CXT}{k:Nat}{f C:Addr}{fd:FuncData}{ps ks:List Str}{sp:Sp}{E:XK}{x m:Str}{p pos apos kpos:Pos}{e o:Expr}{es:List Expr}{kws:List Keyword}{te ta:TE}{t tk:TA}{nm:Option Str}
variable {g:List Value->List Value->List Value}{gV:List V->List V->List V}
end
structure ya (N P:List Str)(sc:Scope):Prop where
 kind:sc.kind=.function
 co:sc.isCoroutine=false
 gen:sc.isGenerator=false
 nd:N.Nodup
 pre:N.take P.length=P
 par:∀x∈P,sc.names.lookup x=some .local\/sc.names.lookup x=some .cell
 nofree:∀y∈sc.names,y.2≠.free
theorem qm {kindOf:Str->Option NameKind}{x:Str}:∀{binds:List (Str×Value)}{m:Str->Option Value},(∀v,(x,v)∉binds)->bindL kindOf binds m x=m x
 |[],_,_=>rfl
 |(n,v)::r,m,h=>by
  unfold bindL;rw[qm λw hw=>h w (zX8 _ hw)];split
  ·have:x≠n:=by rintro rfl;exact h v zX9
   simp[this]
  ·rfl
theorem qD {kindOf:Str->Option NameKind}{x:Str}:∀{binds:List (Str×Value)}{m:Str->Option Value},(∀v,(x,v)∉binds)->bindC kindOf binds m x=m x
 |[],_,_=>rfl
 |(n,v)::r,m,h=>by
  unfold bindC;rw[qD λw hw=>h w (zX8 _ hw)];split
  ·rfl
  ·have:x≠n:=by rintro rfl;exact h v zX9
   simp[this]
theorem qI {kindOf:Str->Option NameKind}{x:Str}{v:Value}:∀{P:List Str}{vs:List Value}{i:Nat}{m:Str->Option Value},P.Nodup->P[i]?=some x->vs[i]?=some v->kindOf x=some .local->
  bindL kindOf (P.zip vs) m x=some v
 |[],_,_,_,_,h,_,_=>by simp at h
 |_::_,[],_,_,_,_,h,_=>by simp at h
 |p::P,w::vs,0,m,nd,h1,h2,hk=>by
  simp at h1 h2;subst h1;subst h2;show bindL kindOf ((p,w)::P.zip vs) m p=_;unfold bindL;rw[qm λv a=>(yf2.mp nd).1 (List.of_mem_zip a).1,if_pos hk];simp
 |p::P,w::vs,i+1,m,nd,h1,h2,hk=>by
  show bindL kindOf ((p,w)::P.zip vs) m x=_;unfold bindL;exact qI (i:=i) (yf2.mp nd).2 (by simpa using h1) (by simpa using h2) hk
theorem qt {kindOf:Str->Option NameKind}{x:Str}{v:Value}:∀{P:List Str}{vs:List Value}{i:Nat}{m:Str->Option Value},P.Nodup->P[i]?=some x->vs[i]?=some v->kindOf x≠some .local->
  bindC kindOf (P.zip vs) m x=some v
 |[],_,_,_,_,h,_,_=>by simp at h
 |_::_,[],_,_,_,_,h,_=>by simp at h
 |p::P,w::vs,0,m,nd,h1,h2,hk=>by
  simp at h1 h2;subst h1;subst h2;show bindC kindOf ((p,w)::P.zip vs) m p=_;unfold bindC;rw[qD λv a=>(yf2.mp nd).1 (List.of_mem_zip a).1,if_neg hk];simp
 |p::P,w::vs,i+1,m,nd,h1,h2,hk=>by
  show bindC kindOf ((p,w)::P.zip vs) m x=_;unfold bindC;exact qt (i:=i) (yf2.mp nd).2 (by simpa using h1) (by simpa using h2) hk
def start (N:List Str)(vs:List V):St:=vs.map some++List.replicate (N.length-vs.length) none
def wW (CX:CXT)(P:Program)(w:World)(K:PySem.W.Frag)(mg:Str->Option Value)(base:Heap)(N:List Str)(qual:Str)(scope:Scope)(f:Addr)(cd:Value)(A:Around)(outer:List Env)(s:Shared)(H:Hp)(E:XK):Cx where
 prog:=P
 w:=w
 K:=K
 mg:=mg
 base:=base
 A:=A.deeper (envOfC qual scope s.heap.objs.size f cd)
 N:=N
 s₀:=s
 H₀:=H
 env:=envOfC qual scope s.heap.objs.size f cd
 outer:=outer
 stack:=envOfC qual scope s.heap.objs.size f cd::outer
 ex:=[]
 calm:=true
 fn:=λ_=>true
 pn:=[]
 xe:=λe s'=>wpAny (model P w) (A.deeper (envOfC qual scope s.heap.objs.size f cd)) (leaving (envOfC qual scope s.heap.objs.size f cd) e) (λ_ a=>CX outer H s E e a) (λb a=>CX outer H s E b a) s'
theorem oG {sc:Scope}{n:Nat}{x:Str}(h:sc.names.lookup x=some .cell):∃c,(cellsFrom n sc.names []).lookup x=some c:=by
 have q:=PySem.W.cellsFrom_some sc.names n [] (.inl h);exact Option.isSome_iff_exists.mp q
theorem gN {CX:CXT}{P:Program}{w:World}{K:PySem.W.Frag}{mg:Str->Option Value}{base:Heap}{N ps:List Str}{qual:Str}{scope:Scope}{f:Addr}{cd:Value}{A:Around}{outer:List Env}{s s1:Shared}{H:Hp}{E:XK}{us:List Value}{vs:List V}
  (S:ya N ps scope) (hd:A.handled=none) (d:uB P w K mg base A outer s H) (m:vs.length=ps.length) (r:Vals vs us)
  (x:InCallC s s.heap.objs.size (bindL (envOfC qual scope s.heap.objs.size f cd).kindOf (ps.zip us) λ_=>none) (cellsFrom (s.heap.objs.size+1) scope.names []) (bindC (envOfC qual scope s.heap.objs.size f cd).kindOf (ps.zip us) λ_=>none) s1):
  Inv (wW CX P w K mg base N qual scope f cd A outer s H E) [] (start N vs) H s1:=by
 have hpl:ps.length<=N.length:=by have:=congrArg List.length S.pre;rw[z35]at this;exact zY1 (zZ3 this.symm) (Nat.min_le_right _ _)
 obtain⟨h1,tk,rfl,hk⟩:=x.done;have g:∀b:Addr,b∉(wW CX P w K mg base N qual scope f cd A outer s H E).ex:=λb z=>absurd (show b∈([]:List Addr)from z) (by simp);refine⟨⟨d.mod,S.kind,rfl,rfl,zX7 _,λy z c h1 h2=>?_,λy hy=>?_,λy c _ h=>?_,λ_=>hd,Around.frames_deeper d.frames,.inr ⟨rfl,rfl⟩,λb z=>absurd z (g b),d.bs,d.bsz,λb _ _=>g b,λb z=>absurd z (g b),d.funs,d.frf⟩,
  rfl,d.bare,Un.kept hk,⟨_,x.toInCall.ns,λi y v h1 h2 h3=>?_⟩,λy c h=>⟨_,x.cell y c h⟩,d.hok.fresh (zX7 _),λy c h=>?_,λp j=>absurd (show p∈([]:List (Addr×Obj))from j) (by simp),d.hok.kept hk,?_⟩
 ·exact name_of_addr x.apart (z36 h1) (z36 h2)
 ·have hy:scope.names.lookup y=some .cell\/scope.names.lookup y=some .free:=hy;rcases hy with hy|hy
  ·exact oG hy
  ·exact absurd rfl (S.nofree _ (z36 hy))
 ·exact z30 (x.above y c (z36 h))
 ·have hi:i<vs.length:=by
   unfold start at h2;by_cases hi:i<vs.length
   ·exact hi
   ·rw[z86 (by simpa using hi)]at h2;rw[z73]at h2;split at h2<;>cases h2
  have ha:vs[i]?=some v:=by
   unfold start at h2;rw[z53 (by simpa using hi),zY3]at h2;cases e:vs[i]? with
   |none=>rw[e]at h2;cases h2
   |some a=>rw[e]at h2;cases h2;rfl
  obtain⟨u,o,t⟩:=r.get ha;have j:ps[i]?=some y:=by rw[<-S.pre,List.getElem?_take_of_lt (zX4 hi (zZ3 m))];exact h1
  have l:ps.Nodup:=by rw[<-S.pre];exact S.nd.sublist (List.take_sublist _ _)
  refine⟨u,t,?_⟩;rcases S.par y (z23 j)with k|k
  ·exact .inl ⟨k,qI l j o k⟩
  ·obtain⟨c,e⟩:=oG (n:=s.heap.objs.size+1) k;refine .inr ⟨.inl k,c,e,?_⟩;have q:=x.cell y c e;rw[qt l j o (by show scope.names.lookup y≠_;rw[k];decide)]at q;exact q
 ·exact d.hok.fresh (z30 (x.above y c (z36 h)))
 ·unfold start;show _=N.length;rw[zZ9,zX0,List.length_replicate];exact zM8 m hpl
theorem eI {CX:CXT}{P:Program}{w:World}{K:PySem.W.Frag}{mg:Str->Option Value}{base:Heap}{k:Nat}{f:Addr}{name qual:Str}{params:Arguments}{body:List Stmt}{scope:Scope}{dV kV doc pm cdv ct oc:Value}{an od:Option Addr}
  {osl:Array (Option Value)} {N ps:List Str} {sp:Sp} (z:K.lookup f=some ⟨oc,od,.func (PySem.W.fnOf name qual params body scope dV kV doc pm an cdv ct),osl⟩) (m:PySem.W.codeIn K cdv qual=true) (S:ya N ps scope)
  (len:∀vs H Q E,sp vs H Q E->vs.length=ps.length)
  (d:∀(A:Around) (outer:List Env) (s:Shared) (H:Hp) (vs:List V) (Q:VK) (E:XK),zM k (A.deeper (envOfC qual scope s.heap.objs.size f cdv))->sp vs H Q E->
   ∃t,PSs (wW CX P w K mg base N qual scope f cdv A outer s H E) body t/\t {nx:=λ_ H'=>Q .non H',rt:=Q} (start N vs) H):
  yC P w K mg base CX (k+1) f (PySem.W.fnOf name qual params body scope dV kV doc pm an cdv ct) ps sp:=by
 refine⟨len,λA outer s H args us vs Q E hr j hb r h=>?_⟩;have B:=len _ _ _ _ h;have p:K.In s.heap:=j.mod.kin.keeps λb o e=>(j.bs b o e).1;have lim:s.heap.NoLimit:=j.mod.nolimit.keeps λb o e=>(j.bs b o e).1;have c:∀y∈ps.zip us,scope.names.lookup y.1=some .local\/(scope.names.lookup y.1=some .cell/\((cellsFrom (s.heap.objs.size+1) scope.names []).lookup y.1).isSome=true):=λi hy=>by
  obtain⟨n,v⟩:=i;rcases S.par n (List.of_mem_zip hy).1 with q|q
  ·exact .inl q
  ·exact .inr ⟨q,PySem.W.cellsFrom_some _ _ _ (.inl q)⟩
 refine codeAny_call_function hr.depth (p _ _ z) rfl S.co S.gen rfl (PySem.W.codeRec_of p m) (hb _ _ _ _ ?_);refine wpAny_newFunctionEnv_cells S.kind c λenv he s1 x=>?_;subst he;refine⟨lim.keeps x.toInCall.keep,codeAny_func ?_⟩;obtain⟨t,D,hq⟩:=d A outer s H vs Q E (hr.deeper _) h;have I:Inv (wW CX P w K mg base N qual scope f cdv A outer s H E) [] (start N vs) H s1:=gN S hr.hd j B r x;refine z29 (D [] s1 (start N vs) H _ I hq) (λC s' g=>?_) λe s' g=>g;have fin:∀{a:St} {H':Hp} {v:V} {u:Value},Inv (wW CX P w K mg base N qual scope f cdv A outer s H E) [] a H' s'->RelV v u->Q v H'->CE outer P w H s Q u s':=
  λ{a H' v u} J l q=>⟨v,H',J.os,J.bare,J.base,J.hok,l,q⟩
 cases C with
 |ret u=>
  obtain⟨v,a,H',J,l,q⟩:=g;exact fin J l q
 |next=>
  obtain⟨a,H',J,q⟩:=g;exact fin (v:=V.non) (u:=Value.none) J rfl q
 |brk=>
  obtain⟨_,_,_,q⟩:=g;exact False.elim q
 |cont=>
  obtain⟨_,_,_,q⟩:=g;exact False.elim q
section
variable {X:Cx}{x:Str}{p pos:Pos}{e:Expr}{es:List Expr}{t:TA}{id T:String}{r:List V->Hp->VK->Prop}
def tCB (r:List V->Hp->VK->Prop)(t:TA):TE:=λσ H Q=>t σ H λvs H1=>r vs H1 Q
theorem yY (i:yE X (.builtin id) r)(hg:Gl X x)(hm:X.mg x=none)(c:bootBuiltins x=some (.builtin id))(ha:PA X (e::es) t)(hn:x≠"__name__":=by decide)(b:(x == ("__debug__":Str))=false:=by decide)
  (he:starEach (e::es) X.env=(false,eval e X.env)::starEach es X.env:=by rfl) (hpl:(backTo pos (starEach es X.env)).any (·.1)=false:=by rfl):PE X (.Call (.Name x p) (e::es) [] pos) (tCB r t):=by
 intro pins s σ H Q I h;refine z93 (yO I hg hm c ?_ hn b);exact PyProof.Rows.callWith_builtin1 (thn (ha pos pins s σ H _ I h) λus s1 a=>by obtain⟨vs,H1,g,d,f⟩:=a;exact i pins s1 σ H1 vs us Q g d f) he hpl
theorem yF (i:yE X (.type T) r)(hg:Gl X x)(hm:X.mg x=none)(c:bootBuiltins x=some (.type T))(ha:PA X (e::es) t)(hn:x≠"__name__":=by decide)(b:(x == ("__debug__":Str))=false:=by decide)
  (he:starEach (e::es) X.env=(false,eval e X.env)::starEach es X.env:=by rfl) (hpl:(backTo pos (starEach es X.env)).any (·.1)=false:=by rfl):PE X (.Call (.Name x p) (e::es) [] pos) (tCB r t):=by
 intro pins s σ H Q I h;refine z93 (yO I hg hm c ?_ hn b);exact z21 (thn (ha pos pins s σ H _ I h) λus s1 a=>by obtain⟨vs,H1,g,d,f⟩:=a;exact i pins s1 σ H1 vs us Q g d f) he hpl
end
end L2
namespace HT
open PySem PyProof.Rows
section
open PySem.SeqAt
open PySem.AutoSeq1 (wpAny_loadPart')
open PySem.MeetsSeq PySem.MeetsSeq2 PySem.MeetsSeq3
end
section
variable {prog:Program}{w:World}{A:Around}{E:Value->Shared->Prop}{s:Shared}
def sIx (n d:Nat):Option Int->Nat
 |none=>d
 |some v=>if v<0 then(v+(n:Int)).toNat else min v.toNat n
theorem sP (n d:Nat):sIx n d none=d:=rfl
theorem jF (n d k:Nat):sIx n d (some (k:Int))=min k n:=by
 show(if(k:Int)<0 then((k:Int)+(n:Int)).toNat else min (k:Int).toNat n)=min k n;rw[if_neg (Int.not_lt.2 (yc8 _)),ya0]
end
end HT
namespace L2
open PySem PySem.Spec PyProof.Rows
abbrev TO :=St->Hp->(Option Int->Hp->Prop)->Prop
def PO (X:Cx)(e:Option Expr)(t:TO):Prop:=
 ∀(pins:List (Addr×Obj)) (s:Shared) (σ:St) (H:Hp) (Q:Option Int->Hp->Prop),Inv X pins σ H s->t σ H Q->
  wpAny (model X.prog X.w) X.A (evalPart e X.env) (λu s'=>∃o H',Inv X pins σ H' s'/\IsPart u o/\Q o H') X.xe s
def zl1 :TO:=λ_ H Q=>Q none H
def zL6 (t:TE):TO:=λσ H Q=>t σ H λx H1=>∃i,x=.int i/\Q (some i) H1
section
variable {X:Cx}{e:Expr}{te:TE}{lo hi:Option Expr}{tl th:TO}{pos p2:Pos}
theorem qV :PO X none zl1:=by
 intro pins s σ H Q I h;rw[evalPart_none];exact zY6 ⟨none,H,I,.none,h⟩
theorem pA (h:PE X e te):PO X (some e) (zL6 te):=by
 intro pins s σ H Q I hw;rw[evalPart_some];refine thn (h pins s σ H _ I hw) λu s1 a=>?_;obtain⟨x,H1,d,b,c⟩:=a;obtain⟨i,rfl,q⟩:=c;obtain⟨t,rfl⟩:=b;exact⟨some i,H1,d,.int i t,q⟩
def SlR (X:Cx)(r:V->Option Int->Option Int->Hp->VK->Prop):Prop:=
 ∀(pins:List (Addr×Obj)) (s:Shared) (σ:St) (H:Hp) (x:V) (v a b:Value) (lo hi:Option Int) (sl:Addr) (Q:VK),Inv X pins σ H s->RelV x v->s.heap.IsSliceOf sl a b .none->IsPart a lo->IsPart b hi->r x lo hi H Q->
  ∃T id,typeLookup (.type T) "__getitem__"=pure (some (.builtin id))/\s.TypeIs v T/\wpAny (model X.prog X.w) X.A (getItem v (.ref sl)) (EP X pins σ Q) X.xe s
def tSl (r:V->Option Int->Option Int->Hp->VK->Prop)(te:TE)(tl th:TO):TE:=λσ H Q=>te σ H λx H1=>tl σ H1 λl b=>th σ b λu a=>r x l u a Q
theorem sC {r:V->Option Int->Option Int->Hp->VK->Prop}(hr:SlR X r)(he:PE X e te)(f:PO X lo tl)(p:PO X hi th):PE X (.Subscript e (.Slice lo hi none p2) pos) (tSl r te tl th):=by
 intro pins s σ H Q I h;refine Subscript_ (thn (he pins s σ H _ I h) λv s1 ⟨x,H1,z,y,i⟩=>?_);refine wpAny_Slice (thn (f pins s1 σ H1 _ z i) λa s2 ⟨l,j,n,pl,o⟩=>thn (p pins s2 σ j _ n o) λc s3 ⟨u,d,B,pu,k⟩=>?_);rw[evalPart_none];refine zY6 ?_;have t:Inv X pins σ d {s3 with heap:=s3.heap.push {cls:=.type "slice",data:=.fields #[a,c,.none]}}:=B.kept (t':=s3.toks) λb ob q=>zX2 _ q;obtain⟨T,id,g,m,hg⟩:=hr pins {s3 with heap:=s3.heap.push {cls:=.type "slice",data:=.fields #[a,c,.none]}} σ d x v a c l u s3.heap.objs.size Q t y (Heap.IsSliceOf.new ..) pl pu k;show wpAny (model X.prog X.w) X.A (subscriptTail e (.Slice lo hi none p2) v (.ref s3.heap.objs.size)) (EP X pins σ Q) X.xe {s3 with heap:=s3.heap.push {cls:=.type "slice",data:=.fields #[a,c,.none]}};exact tail_any (ops:=[.ref s3.heap.objs.size,v]) m g hg (by with_unfolding_all rfl)
def oS (xs:List V)(lo hi:Option Int):List V:=(xs.drop (HT.sIx xs.length 0 lo)).take (HT.sIx xs.length xs.length hi-HT.sIx xs.length 0 lo)
theorem oP (xs:List V)(lo hi:Option Int):(oS xs lo hi).length<=xs.length:=by
 unfold oS;rw[z35,ya9];exact zY1 (Nat.min_le_right _ _) (Nat.sub_le _ _)
end
def ixN (n:Nat)(i:Int):Option Nat:=if 0<=i then(if i<n then some i.toNat else none)else if -(n:Int)<=i then some (i+n).toNat else none
def atI {α:Type}(xs:List α)(i:Int):Option α:=(ixN xs.length i).bind λj=>xs[j]?
theorem pb {n:Nat}{i:Int}{j:Nat}(h:ixN n i=some j):seqIndex? i n=some j/\j<n/\-(n:Int)<=i/\i<n:=by
 unfold ixN at h;by_cases h0:0<=i
 ·rw[if_pos h0]at h;by_cases h1:i<n
  ·rw[if_pos h1]at h;have e:i.toNat=j:=z00 h;exact⟨by rw[seqIndex_of h0 h1,e],by lia,by lia,h1⟩
  ·rw[if_neg h1]at h;cases h
 ·rw[if_neg h0]at h;by_cases h1:-(n:Int)<=i
  ·rw[if_pos h1]at h;have e:(i+n).toNat=j:=z00 h;exact⟨by rw[seqIndex_neg (yf4.1 h0) h1,e],by lia,h1,(z81 (yf4.1 h0) (yc8 _))⟩
  ·rw[if_neg h1]at h;cases h
theorem oe {α:Type}{xs:List α}{i:Int}{v:α}(h:atI xs i=some v):∃j,seqIndex? i xs.length=some j/\xs[j]?=some v/\j<xs.length/\-(xs.length:Int)<=i/\i<xs.length:=by
 unfold atI at h;cases e:ixN xs.length i with
 |none=>rw[e]at h;cases h
 |some j=>
  rw[e]at h;obtain⟨h1,h2,h3,a⟩:=pb e;exact⟨j,h1,h,h2,h3,a⟩
theorem zW {α:Type}{xs:List α}{j:Nat}{v:α}(h:xs[j]?=some v):atI xs (j:Int)=some v:=by
 have a:j<xs.length:=(zX5.mp h).1;have e:ixN xs.length (j:Int)=some j:=by
  unfold ixN;rw[if_pos (yc8 _),if_pos (Int.ofNat_lt.2 a)];simp
 unfold atI;rw[e];exact h
theorem uq {α:Type}(xs:List α)(v:α):atI (xs++[v]) (-1)=some v:=by
 have a:(xs++[v]).length=xs.length+1:=by simp
 have e:ixN (xs++[v]).length (-1)=some xs.length:=by
  unfold ixN;rw[a,if_neg (by decide),if_pos (by lia)]
  congr 1
  lia
 unfold atI;rw[e];show(xs++[v])[xs.length]?=some v;simp
def tE (b:Expr):Prop:=∀o i,subscripted b false o i=operate [o,i] (getItem o i)
def IxR (X:Cx)(r:R2):Prop:=
 ∀(value slice:Expr) (pins:List (Addr×Obj)) (s:Shared) (σ:St) (H:Hp) (x y:V) (v u:Value) (Q:VK),Inv X pins σ H s->RelV x v->RelV y u->r x y H Q->
  subscripted slice false v u=operate [v,u] (getItem v u)->wpAny (model X.prog X.w) X.A (subscriptTail value slice v u) (EP X pins σ Q) X.xe s
def MtR (X:Cx)(id:String)(r:V->List V->Hp->VK->Prop):Prop:=
 ∀(pins:List (Addr×Obj)) (s:Shared) (σ:St) (H:Hp) (x:V) (xs:List V) (v:Value) (us:List Value) (Q:VK),Inv X pins σ H s->RelV x v->Vals xs us->r x xs H Q->
  wpAny (model X.prog X.w) X.A (call (.builtin id) (v::us)) (EP X pins σ Q) X.xe s
section
variable {X:Cx}{a b:Expr}{ta tb:TE}{pos:Pos}
theorem IxR.or {r d:R2}(h:IxR X r)(h':IxR X d):IxR X (λx y H Q=>r x y H Q\/d x y H Q):=by
 intro value slice pins s σ H x y v u Q I e c q f;rcases q with q|q
 ·exact h value slice pins s σ H x y v u Q I e c q f
 ·exact h' value slice pins s σ H x y v u Q I e c q f
theorem yx {r:R2}(hr:IxR X r)(ha:PE X a ta)(hb:PE X b tb)(d:tE b):PE X (.Subscript a b pos) (tOp r ta tb):=by
 intro pins s σ H Q I h;exact Subscript_ (zG7 ha hb I h λv u s2 x y f g e c q=>hr a b pins s2 σ f x y v u Q g e c q (d _ _))
def zI1 (K:PySem.W.Frag):R2:=λx y H Q=>∃p xs i v,x=.ref p/\y=.int i/\SqL K H p xs/\atI xs i=some v/\Q v H
def zE6 (K:PySem.W.Frag):R2:=λx y H Q=>∃p xs i v,x=.ref p/\y=.int i/\SqT K H p xs/\atI xs i=some v/\Q v H
def zM5 :R2:=λx y H Q=>∃z i c,x=.str z/\y=.int i/\z.length<=sizeLine/\atI z.cps.toList i=some c/\Q (.str ⟨#[c]⟩) H
theorem zQ :IxR X (zI1 X.K):=by
 intro value slice pins s σ H x y v u Q I o n h l;obtain⟨p,xs,i,z,rfl,rfl,hq,he,q⟩:=h;cases o;obtain⟨t,rfl⟩:=n;obtain⟨d,r,pl,hz⟩:=I.list hq;obtain⟨j,h1,h2,h3,g,f⟩:=oe he;obtain⟨w,k,e⟩:=r.get h2;have m:=r.length;have hn:=uG;have fin:EP X pins σ Q w s:=⟨z,H,I,e,q⟩;by_cases h0:0<=i
 ·have c:i.toNat=j:=by
   rw[seqIndex_of h0 f]at h1;exact z00 h1
  exact item_listR pl.isList h0 (cn hn f hz) (by rw[c];simpa using k) fin l
 ·have c:(i+(d.toArray.size:Int)).toNat=j:=by
   rw[seqIndex_neg (yf4.1 h0) g]at h1;rw[zZ0,<-m];exact z00 h1
  exact subscriptTail_builtinR (x:=w) pl.isList.typeIs slot_list_getitem.lookup
   (wpAny_getItem_list_neg (Q:=λr s'=>r=w/\EP X pins σ Q r s') pl.isList (yf4.1 h0) (by rw[zZ0]<;>lia) (aZ g hz hn) (by rw[c];simpa using k) ⟨rfl,fin⟩) l
theorem zb9 :IxR X (zE6 X.K):=by
 intro value slice pins s σ H x y v u Q I m k h n;obtain⟨p,xs,i,z,rfl,rfl,hq,he,q⟩:=h;cases m;obtain⟨t,rfl⟩:=k;obtain⟨l,r,pl,hz⟩:=I.tuple hq;obtain⟨j,h1,h2,h3,f,e⟩:=oe he;obtain⟨w,g,c⟩:=r.get h2;have d:=r.length;have hn:=uG;have fin:EP X pins σ Q w s:=⟨z,H,I,c,q⟩;exact subscriptTail_builtinR (x:=w) pl.typeIs slot_tuple_getitem.lookup
  (getItem_tuple (j:=j) (Q:=λr s'=>r=w/\EP X pins σ Q r s') pl (aZ f hz hn) (cn hn e hz) (by rw[zZ0,<-d];exact h1) (by simpa using g) ⟨rfl,fin⟩) n
theorem zb4 :IxR X zM5:=by
 intro value slice pins s σ H x y v u Q I l d h m;obtain⟨z,i,c,rfl,rfl,hz,he,q⟩:=h;obtain⟨t,rfl⟩:=l;obtain⟨t',rfl⟩:=d;obtain⟨j,h1,h2,h3,g,f⟩:=oe he;have e:z.cps.toList.length=z.length:=by simp[Str.length]
 rw[e]at h1 g f;have hn:=uG;exact tail_any (typeIs_str s z t) slot_str_getitem.lookup (getItem_str (c:=c) (by
  have e1:decide (i < -(2 ^ 63:Int))=false:=zZ7 (by lia);have k:decide (i≥2 ^ 63)=false:=zZ7 (by lia);rw[e1,k,yb4]) (by rw[h1];simpa using h2) ⟨.str ⟨#[c]⟩,H,I.tok _,⟨_,rfl⟩,q⟩) m
def rIx (K:PySem.W.Frag):R2:=λx y H Q=>zI1 K x y H Q\/zE6 K x y H Q\/zM5 x y H Q
theorem zE1 :IxR X (rIx X.K):=zQ.or (zb9.or zb4)
theorem lV (c:List Value)(n j:Nat)(u:Value):Obj.mapSeq (·.setIfInBounds j u) {cls:=.type "list",data:=.seq c.toArray n}={cls:=.type "list",data:=.seq (c.set j u).toArray n}:=by simp[Obj.mapSeq]
theorem Inv.lst {pins:List (Addr×Obj)}{σ:St}{H:Hp}{s:Shared}{p:Addr}{xs:List V}(I:Inv X pins σ H s)(h:H p=some (.lst xs)):
  ∃(c:List Value) (n:Nat),Vals xs c/\s.heap.get? p=some {cls:=.type "list",data:=.seq c.toArray n}/\xs.length<=sizeLine:=by
 obtain⟨z,c,n,r,e⟩:=I.hok p _ h;exact⟨c,n,r,e,z⟩
theorem Inv.lstUpd {pins:List (Addr×Obj)}{σ:St}{H:Hp}{s:Shared}{p:Addr}{xs ys:List V}{c its':List Value}{n d:Nat}{f:Obj->Obj}(I:Inv X pins σ H s)(h:H p=some (.lst xs))
  (g:s.heap.get? p=some {cls:=.type "list",data:=.seq c.toArray n}) (hf:f {cls:=.type "list",data:=.seq c.toArray n}={cls:=.type "list",data:=.seq its'.toArray d}) (r:Vals ys its') (hz:ys.length<=sizeLine) (t:Nat):
  Inv X pins σ (upd H p (.lst ys)) {s with heap:=s.heap.update p f,toks:=t}:=by
 have e:(s.heap.update p f).get? p=some {cls:=.type "list",data:=.seq its'.toArray d}:=by rw[ya4 f g (by rw[hf]<;>rfl),hf]
 refine I.write (x:=p) (e:=p) (by rw[h];trivial) (.inl rfl) (λb u hb q=>(z01 _ _ (z09 hb)).trans q) ⟨_,e⟩ ?_;exact⟨hz,its',d,r,e⟩
def zs6 :V->V->V->Hp->(Hp->Prop)->Prop:=λo i v H Q=>∃p xs k j,o=.ref p/\i=.int k/\H p=some (.lst xs)/\ixN xs.length k=some j/\Q (upd H p (.lst (xs.set j v)))
theorem set_list :zQ9 X zs6:=by
 intro pins s σ H o i v A z u Q I x y w h;obtain⟨p,xs,k,j,rfl,rfl,g,m,q⟩:=h;cases x;obtain⟨t,rfl⟩:=y;obtain⟨c,n,r,f,hz⟩:=I.lst g;obtain⟨h1,h2,h3,e⟩:=pb m;have d:=r.length;have hn:=uG;have l:Inv X pins σ (upd H p (.lst (xs.set j v))) {s with heap:=s.heap.update p (Obj.mapSeq (·.setIfInBounds j u))}:=
  I.lstUpd g f (lV c n j u) (r.set w j) (by rw[z48];exact hz) s.toks
 by_cases h0:0<=k
 ·have hk:k.toNat=j:=by
   rw[seqIndex_of h0 e]at h1;exact z00 h1
  exact PySem.W.ki_setAt f h0 (cn hn e hz) (by rw[zZ0,<-d];exact e) (by rw[hk];exact⟨_,l,q⟩)
 ·have hk:(k+(c.toArray.size:Int)).toNat=j:=by
   rw[seqIndex_neg (yf4.1 h0) h3]at h1;rw[zZ0,<-d];exact z00 h1
  exact PySem.W.ki_setBack f (yf4.1 h0) (by rw[zZ0,<-d];exact h3) (aZ h3 hz hn) (by rw[hk];exact⟨_,l,q⟩)
theorem om (lo hi:Option Int)(n:Nat):(sliceBounds lo hi none n).1=((HT.sIx n 0 lo:Nat):Int)/\(sliceBounds lo hi none n).2.1=((HT.sIx n n hi:Nat):Int)/\(sliceBounds lo hi none n).2.2=1:=by
 refine⟨?_,?_,rfl⟩
 ·cases lo with
  |none=>simp[sliceBounds,HT.sIx]
  |some i=>
   simp only[sliceBounds,HT.sIx,Option.getD_none,show(1:Int) > 0 by decide,z92];by_cases h:i<0
   ·simp only[h,z92]<;>exact zv3 h
   ·simp only[h,z65]<;>exact zt0
 ·cases hi with
  |none=>simp[sliceBounds,HT.sIx]
  |some i=>
   simp only[sliceBounds,HT.sIx,Option.getD_none,show(1:Int) > 0 by decide,z92];by_cases h:i<0
   ·simp only[h,z92]<;>exact zv3 h
   ·simp only[h,z65]<;>exact zt0
theorem rX (c:List Value)(lo hi:Option Int):slicePick c.toArray lo hi none=((c.drop (HT.sIx c.length 0 lo)).take (HT.sIx c.length c.length hi-HT.sIx c.length 0 lo)).toArray:=by
 obtain⟨h1,h2,h3⟩:=om lo hi c.toArray.size;unfold slicePick;rw[h1,h2,h3];simp only[sliceRange_one,pick_run,zZ0]<;>rfl
def zT6 (K:PySem.W.Frag):V->Option Int->Option Int->Hp->VK->Prop:=λx lo hi H Q=>∃a xs,x=.ref a/\SqL K H a xs/\∀p,H p=none->Q (.ref p) (upd H p (.lst (oS xs lo hi)))
theorem pI :SlR X (zT6 X.K):=by
 intro pins s σ H x v i j lo hi sl Q I f g pl pu h;obtain⟨a,xs,rfl,e,q⟩:=h;cases f;obtain⟨d,r,c,hz⟩:=I.list e;have hlen:=r.length;refine⟨"list",_,slot_list_getitem.lookup,c.isList.typeIs,?_⟩;refine wpAny_getItem_list_slice c.isList g pl pu .none (by simp) ?_ (by rw[zZ0]<;>exact zY1 (zZ3 hlen.symm) hz);rw[rX,<-hlen];refine⟨.ref s.heap.objs.size,_,I.laid (t':=s.toks) (o:=.lst (oS xs lo hi)) (λb ob q=>zX2 _ q) (zX7 _) ?_,rfl,q _ (I.hok.fresh (zX7 _))⟩;exact⟨zY1 (oP xs lo hi) hz,_,0,(r.drop (HT.sIx xs.length 0 lo)).take (HT.sIx xs.length xs.length hi-HT.sIx xs.length 0 lo),zY5 _ rfl⟩
def vq :V->Bool
 |.non=>true
 |.bl _=>true
 |.int _=>true
 |.str _=>true
 |_=>false
def eqV :V->V->Bool
 |.non,.non=>true
 |.bl a,.bl b=>a == b
 |.bl a,.int b=>(if a then 1 else 0)==b
 |.int a,.bl b=>a == (if b then 1 else 0)
 |.int a,.int b=>a == b
 |.str a,.str b=>a == b
 |_,_=>false
theorem zB2 {A:Around}{s:Shared}{y x:V}{u v:Value}(d:RelV y u)(c:RelV x v)(f:vq y=true)(e:vq x=true):SeqAt.EqAt A s u v (eqV y x):=by
 cases y with
 |non=>
  cases d;cases x with
  |non=>cases c;exact SeqAt.EqAt.same _
  |bl b=>cases c;exact SeqAt.EqAt.none_bool b
  |int b=>obtain⟨t,rfl⟩:=c;exact SeqAt.EqAt.none_int b t
  |str b=>obtain⟨t,rfl⟩:=c;exact SeqAt.EqAt.none_str b t
  |_=>exact absurd (show false=true from e) zZ8
 |bl a=>
  cases d;cases x with
  |non=>cases c;exact SeqAt.EqAt.bool_none a
  |bl b=>cases c;exact SeqAt.EqAt.bool_bool a b
  |int b=>obtain⟨t,rfl⟩:=c;exact SeqAt.EqAt.bool_int a b t
  |str b=>obtain⟨t,rfl⟩:=c;exact SeqAt.EqAt.bool_str a b t
  |_=>exact absurd (show false=true from e) zZ8
 |int a=>
  obtain⟨t',rfl⟩:=d;cases x with
  |non=>cases c;exact SeqAt.EqAt.int_none a t'
  |bl b=>cases c;exact SeqAt.EqAt.int_bool a t' b
  |int b=>obtain⟨t,rfl⟩:=c;exact SeqAt.EqAt.int_int a t' b t
  |str b=>obtain⟨t,rfl⟩:=c;exact SeqAt.EqAt.int_str a t' b t
  |_=>exact absurd (show false=true from e) zZ8
 |str a=>
  obtain⟨t',rfl⟩:=d;cases x with
  |non=>cases c;exact SeqAt.EqAt.str_none a t'
  |bl b=>cases c;exact SeqAt.EqAt.str_bool a t' b
  |int b=>obtain⟨t,rfl⟩:=c;exact SeqAt.EqAt.str_int a t' b t
  |str b=>obtain⟨t,rfl⟩:=c;exact SeqAt.EqAt.str_str a t' b t
  |_=>exact absurd (show false=true from e) zZ8
 |_=>exact absurd (show false=true from f) zZ8
def eqU (x:V)(u:Value):Bool:=match u with
 |.none=>eqV .non x
 |.bool b=>eqV (.bl b) x
 |.int i _=>eqV (.int i) x
 |.str z _=>eqV (.str z) x
 |_=>false
theorem aQ {x y:V}{u:Value}(r:RelV y u)(f:vq y=true):eqU x u=eqV y x:=by
 cases y with
 |non=>cases r;rfl
 |bl b=>cases r;rfl
 |int i=>obtain⟨t,rfl⟩:=r;rfl
 |str z=>obtain⟨t,rfl⟩:=r;rfl
 |_=>exact absurd (show false=true from f) zZ8
theorem tS {x:V}{xs:List V}{us:List Value}(h:Vals xs us)(f:xs.all vq=true):us.any (eqU x)=xs.any λy=>eqV y x:=by
 induction h with
 |nil=>rfl
 |cons r _ c=>
  rw[yg9,z24]at f;rw[z87,z87,aQ r f.1,c f.2]
theorem wR {A:Around}{s:Shared}{x:V}{v:Value}(d:RelV x v)(e:vq x=true):∀{xs:List V}{us:List Value},Vals xs us->xs.all vq=true->∀u∈us,SeqAt.EqAt A s u v (eqU x u)
 |_,_,.nil,_=>λu c=>by cases c
 |y::xs,u::us,.cons r t,f=>λg c=>by
  rw[yg9,z24]at f;rcases zX6.mp c with rfl|c
  ·rw[aQ r f.1];exact zB2 r d f.1 e
  ·exact wR d e t f.2 g c
def inV (x:V)(xs:List V):Bool:=xs.any λy=>eqV y x
def rIn (K:PySem.W.Frag)(neg:Bool):R2:=λx y H Q=>∃p xs,y=.ref p/\(SqL K H p xs\/SqT K H p xs)/\vq x=true/\xs.all vq=true/\Q (.bl (if neg then !inV x xs else inV x xs)) H
theorem fP :OpR X (compareOp .In) (rIn X.K false):=by
 intro pins s σ H x y v u Q I d f h;obtain⟨p,xs,rfl,hq,e,fs,q⟩:=h;cases f;rcases hq with hq|hq
 ·obtain⟨c,r,pl,hz⟩:=I.list hq;refine SeqAt.in_listAt (eqU x) pl.isList (λw hw=>wR d e r fs w (by simpa using hw)) ⟨.bl _,H,I,rfl,?_⟩;rw[show c.toArray.any (eqU x)=c.any (eqU x) by simp,tS r fs];exact q
 ·obtain⟨c,r,pl,hz⟩:=I.tuple hq;refine SeqAt.in_tupleAt (eqU x) pl (λw hw=>wR d e r fs w (by simpa using hw)) ⟨.bl _,H,I,rfl,?_⟩;rw[show c.toArray.any (eqU x)=c.any (eqU x) by simp,tS r fs];exact q
theorem qU :OpR X (compareOp .NotIn) (rIn X.K true):=by
 intro pins s σ H x y v u Q I d f h;obtain⟨p,xs,rfl,hq,e,fs,q⟩:=h;cases f;rcases hq with hq|hq
 ·obtain⟨c,r,pl,hz⟩:=I.list hq;refine SeqAt.notIn_listAt (eqU x) pl.isList (λw hw=>wR d e r fs w (by simpa using hw)) ⟨.bl _,H,I,rfl,?_⟩;rw[show c.toArray.any (eqU x)=c.any (eqU x) by simp,tS r fs];exact q
 ·obtain⟨c,r,pl,hz⟩:=I.tuple hq;refine SeqAt.notIn_tupleAt (eqU x) pl (λw hw=>wR d e r fs w (by simpa using hw)) ⟨.bl _,H,I,rfl,?_⟩;rw[show c.toArray.any (eqU x)=c.any (eqU x) by simp,tS r fs];exact q
theorem yH :yE X (.builtin "len") (λxs H Q=>∃p ys,xs=[.ref p]/\(SqL X.K H p ys\/SqT X.K H p ys)/\Q (.int ys.length) H):=by
 intro pins s σ H xs us Q I r h;obtain⟨p,ys,rfl,hq,q⟩:=h;obtain⟨u,rfl,e⟩:=vals1 r;cases e;have hn:=uG;rcases hq with hq|hq
 ·obtain⟨c,d,pl,hz⟩:=I.list hq;have hlen:=d.length;exact Calls.call_len_list pl.isList (by simp only[zZ0]<;>exact zu3 hn hlen hz) ⟨.int ys.length,H,I.tok _,⟨s.toks+1,by rw[zZ0,hlen]⟩,q⟩
 ·obtain⟨c,d,pl,hz⟩:=I.tuple hq;have hlen:=d.length;exact len_tuple pl (by simp only[zZ0]<;>exact zu3 hn hlen hz) ⟨.int ys.length,H,I.tok _,⟨s.toks+1,by rw[zZ0,hlen]⟩,q⟩
theorem uf :yE X (.type "list") (λxs H Q=>∃p ys,xs=[.ref p]/\(SqL X.K H p ys\/SqT X.K H p ys)/\∀l,H l=none->Q (.ref l) (upd H l (.lst ys))):=by
 intro pins s σ H xs us Q I r h;obtain⟨p,ys,rfl,hq,q⟩:=h;obtain⟨u,rfl,i⟩:=vals1 r;cases i;have fin:∀(c:List Value),Vals ys c->ys.length<=sizeLine->∀(h':Heap) (c':Nat),(∀b o',s.heap.get? b=some o'->h'.get? b=some o')->
   h'.get? s.heap.objs.size=some {cls:=.type "list",dict:=none,data:=.seq c.toArray c',slots:=#[]}->EP X pins σ Q (.ref s.heap.objs.size) {s with heap:=h'}:=λc d hz h' c' kp e=>
  ⟨.ref s.heap.objs.size,_,I.laid (t':=s.toks) kp (zX7 _) (show zE X.prog X.w _ h' _ (.lst ys)from⟨hz,c,c',d,e⟩),rfl,q _ (I.hok.fresh (zX7 _))⟩
 rcases hq with hq|hq
 ·obtain⟨c,d,pl,hz⟩:=I.list hq;have hlen:=d.length;obtain⟨o,g,f,n,hd⟩:=pl.isList;exact call_list_seq p (.inl rfl) g f hd (λh' c' kp e=>fin c d hz h' c' kp e) (by simp only[zZ0]<;>exact zY1 (zZ3 hlen.symm) hz)
 ·obtain⟨c,d,pl,hz⟩:=I.tuple hq;have hlen:=d.length;obtain⟨o,g,f,n,hd⟩:=pl;exact call_list_seq p (.inr rfl) g f hd (λh' c' kp e=>fin c d hz h' c' kp e) (by simp only[zZ0]<;>exact zY1 (zZ3 hlen.symm) hz)
theorem qg :yE X (.type "tuple") (λxs H Q=>∃p ys,xs=[.ref p]/\((SqL X.K H p ys/\∀l,H l=none->Q (.ref l) (upd H l (.tup ys)))\/(SqT X.K H p ys/\Q (.ref p) H))):=by
 intro pins s σ H xs us Q I r h;obtain⟨p,ys,rfl,h⟩:=h;obtain⟨u,rfl,g⟩:=vals1 r;cases g;rcases h with⟨hq,q⟩|⟨hq,q⟩
 ·obtain⟨c,d,pl,hz⟩:=I.list hq;have hlen:=d.length;refine call_tuple_list pl.isList (λh' kp=>?_) (by simp only[zZ0]<;>exact zY1 (zZ3 hlen.symm) hz);have f:Inv X pins σ H {s with heap:=h'}:=I.kept (t':=s.toks) kp;have i:Inv X pins σ (upd H h'.objs.size (.tup ys)) {s with heap:=h'.push {cls:=.type "tuple",data:=.seq c.toArray}}:=
   f.laid (t':=s.toks) (λb o e=>zX2 _ e) (zX7 _) (show zE X.prog X.w _ _ _ (.tup ys)from⟨hz,c,d,IsTup.new _ _⟩)
  exact⟨.ref h'.objs.size,_,i,rfl,q _ (f.hok.fresh (zX7 _))⟩
 ·obtain⟨c,d,pl,hz⟩:=I.tuple hq;exact call_tuple_same pl ⟨.ref p,H,I,rfl,q⟩
def tyV (K:PySem.W.Frag)(T:String)(x:V)(H:Hp):Prop:=match x with
 |.str _=>T="str"
 |.int _=>T="int"
 |.ref p=>(T="list"/\∃xs,SqL K H p xs)\/(T="tuple"/\∃o,K.lookup p=some o/\o.cls=.type "tuple"/\o.dict=none)\/
   (T="dict"/\((∃kvs,H p=some (.dK kvs))\/∃kvs,H p=some (.dT kvs)))\/(T="set"/\∃S n,H p=some (.set S n))
 |_=>False
theorem zA9 {pins:List (Addr×Obj)}{σ:St}{H:Hp}{s:Shared}{T:String}{x:V}{v:Value}(I:Inv X pins σ H s)(r:RelV x v)(ty:tyV X.K T x H):
  s.TypeIs v T/\∀a,v=.ref a->∃ob,s.heap.get? a=some ob/\ob.dict=none:=by
 cases x with
 |str z=>
  obtain⟨t,rfl⟩:=r;cases(show T="str" from ty);exact⟨typeIs_str s z t,λ_ e=>nomatch e⟩
 |int i=>
  obtain⟨t,rfl⟩:=r;cases(show T="int" from ty);exact⟨typeIs_int s i t,λ_ e=>nomatch e⟩
 |ref p=>
  cases r;rcases ty with⟨rfl,xs,hq⟩|⟨rfl,o,hk,g,hd⟩|⟨rfl,hk⟩|⟨rfl,S,n,hk⟩
  ·obtain⟨f,_,pl,_⟩:=I.list hq;refine⟨pl.isList.typeIs,λa e=>?_⟩;cases e;obtain⟨o,n,e,c,hd,_⟩:=pl;exact⟨o,e,hd⟩
  ·refine⟨⟨o,I.kIn p o hk,g⟩,λa e=>?_⟩;cases e;exact⟨o,I.kIn _ o hk,hd⟩
  ·have z:∃o,s.heap.get? p=some o/\o.ExactDict:=by
    rcases hk with⟨kvs,hk⟩|⟨kvs,hk⟩
    ·obtain⟨_,_,_,_,o,_,_,e,ex,_⟩:=I.hok p _ hk;exact⟨o,e,ex⟩
    ·obtain⟨_,_,_,_,o,_,_,e,ex,_⟩:=I.hok p _ hk;exact⟨o,e,ex⟩
   obtain⟨o,e,ex⟩:=z;refine⟨⟨o,e,ex.1⟩,λa d=>?_⟩;cases d;exact⟨o,e,ex.2.1⟩
  ·obtain⟨o,_,_,_,e,ex,_⟩:=I.hok p _ hk;refine⟨⟨o,e,ex.1⟩,λa d=>?_⟩;cases d;exact⟨o,e,ex.2.1⟩
 |_=>exact False.elim ty
def tBM (K:PySem.W.Frag)(T:String)(r:V->List V->Hp->VK->Prop)(to:TE)(t:TA):TE:=λσ H Q=>to σ H λx H1=>tyV K T x H1/\t σ H1 λxs c=>r x xs c Q
variable {o e:Expr}{es:List Expr}{to:TE}{t:TA}{name:Str}{apos cpos:Pos}{T id:String}{r:V->List V->Hp->VK->Prop}
theorem kW (A:PlainAttrs T)(slot:Slot T name id)(k:typeOf (.builtin id)=pure (.type "method_descriptor"))(hm:MtR X id r)(u:PE X o to)(ha:PA X (e::es) t)
  (f:attributeBase o name X.env (eval o X.env)=eval o X.env:=by rfl)
  (i:((backTo cpos (starEach (e::es) X.env)).all (λx=>!x.1)&&(backToKw cpos (keywordEach [] X.env)).all (λx=>x.1.isSome)
   &&decide ((e::es).length+([]:List Keyword).length+(if([]:List Keyword).isEmpty then 0 else 1)<30))=true:=by rfl)
  (d:(apos.endLine == cpos.line)=true:=by rfl) (B:starEach (e::es) X.env=(false,eval e X.env)::starEach es X.env:=by rfl) (c:(backTo cpos (starEach es X.env)).any (·.1)=false:=by rfl):
  PE X (.Call (.Attribute o name apos) (e::es) [] cpos) (tBM X.K T r to t):=by
 intro pins s σ H Q I h;refine wpAny_Call_method_late f i d rfl (thn (u pins s σ H _ I h) λv s1 g=>?_);obtain⟨x,H1,m,l,ty,p⟩:=g;obtain⟨h1,h2⟩:=zA9 m l ty;refine⟨T,id,A,slot,k,h1,h2,?_⟩;have n:=ha cpos pins s1 σ H1 _ m p;rw[B]at n ⊢;refine Calls.callWith_builtin (by show(false||(backTo cpos (starEach es X.env)).any (·.1))=false;rw[c]<;>rfl) (Calls.evalArgs_plain ?_);exact thn n λus s2 j=>by obtain⟨vs,q,w,z,y⟩:=j;exact hm pins s2 σ q x vs v us Q w l z y
/- xs.append(e),list.index on a module's tuple .. are MtR facts of 06m -/
end
def MtM (X:Cx)(id:String)(r:V->List V->Hp->VK->Prop):Prop:=
 ∀(pins:List (Addr×Obj)) (s:Shared) (σ:St) (H:Hp) (x:V) (xs:List V) (v:Value) (us:List Value) (Q:VK),Inv X pins σ H s->RelV x v->Vals xs us->r x xs H Q->
  wpAny (model X.prog X.w) X.A (call (.builtin id) (v::us)) (EP X pins σ Q) X.xe s
theorem Vals.one {x:V}{us:List Value}(h:Vals [x] us):∃u,us=[u]/\RelV x u:=by
 cases h with
 |cons r q=>cases q;exact⟨_,rfl,r⟩
theorem Vals.two {x y:V}{us:List Value}(h:Vals [x,y] us):∃u v,us=[u,v]/\RelV x u/\RelV y v:=by
 cases h with
 |cons r q=>
  cases q with
  |cons q z=>cases z;exact⟨_,_,rfl,r,q⟩
theorem Vals.eraseIdx :∀{xs:List V}{us:List Value} (i:Nat),Vals xs us->Vals (xs.eraseIdx i) (us.eraseIdx i)
 |_,_,_,.nil=>.nil
 |_,_,0,.cons _ t=>t
 |_,_,i+1,.cons r t=>.cons r (Vals.eraseIdx i t)
theorem qM {α:Type}:∀(l:List α) (i:Nat),(l.eraseIdx i).length<=l.length
 |[],_=>zX7 _
 |_::_,0=>z76 _
 |_::r,i+1=>Nat.succ_le_succ (qM r i)
section
variable {X:Cx}{pins:List (Addr×Obj)}{σ:St}{H:Hp}{s:Shared}{l b:Addr}{xs ys zs:List V}
theorem Inv.lset {a its':List Value}{n:Nat}{f:Array Value->Array Value}{t':Nat}(I:Inv X pins σ H s)(g:H l=some (.lst xs))
  (e:s.heap.get? l=some {cls:=.type "list",data:=.seq a.toArray n}) (hf:f a.toArray=its'.toArray) (c:Vals ys its') (hz:ys.length<=sizeLine):
  Inv X pins σ (upd H l (.lst ys)) {s with heap:=s.heap.update l (Obj.mapSeq f),toks:=t'}:=by
 have q:=PySem.IsL.update e f;rw[hf]at q;refine I.write (x:=l) (e:=l) (by rw[g];exact trivial) (.inl rfl) (λh u hb d=>(z01 s.heap (Obj.mapSeq f) (z09 hb)).trans d) ⟨_,q⟩ ?_;exact⟨hz,its',_,c,q⟩
theorem Inv.lnew {a:List Value}{t':Nat}(I:Inv X pins σ H s)(c:Vals ys a)(hz:ys.length<=sizeLine):
  Inv X pins σ (upd H s.heap.objs.size (.lst ys)) {s with heap:=s.heap.push {cls:=.type "list",data:=.seq a.toArray},toks:=t'}:=
 I.laid (λ_ _ q=>zX2 _ q) (zX7 _) ⟨hz,a,0,c,zY5 _ rfl⟩
theorem Inv.fresh (I:Inv X pins σ H s):H s.heap.objs.size=none:=I.hok.fresh (zX7 _)
theorem Inv.lstM (I:Inv X pins σ H s)(c:H l=some (.lst xs)):xs.length<=sizeLine/\∃(a:List Value) (n:Nat),Vals xs a/\xs.length=a.length/\s.heap.get? l=some {cls:=.type "list",data:=.seq a.toArray n}:=by
 obtain⟨z,a,n,r,e⟩:=I.hok l _ c;exact⟨z,a,n,r,r.length,e⟩
end
section
variable {X:Cx}
def zf0 :V->List V->Hp->VK->Prop:=λx vs H Q=>∃l xs y,x=.ref l/\vs=[y]/\H l=some (.lst xs)/\xs.length<sizeLine/\Q .non (upd H l (.lst (xs++[y])))
theorem qG :MtM X "list.append" zf0:=by
 intro pins s σ H x vs v us Q I f g h;obtain⟨l,xs,y,rfl,rfl,b,hz,q⟩:=h;cases f;obtain⟨u,rfl,c⟩:=g.one;obtain⟨z,a,n,r,d,e⟩:=I.lstM b;refine call_meets F.slot_list_append ⟨_,e,rfl⟩ F.entry_list_append (F.args_list_append_2 _ _) (PySem.list_append l a.toArray n u (by rw[zZ0];exact z30 (zZ5 (zZ3 d.symm) hz))) ⟨e,?_⟩;refine⟨.non,_,I.lset (its':=a++[u]) b e (by simp) (r.append (.cons c .nil)) ?_,rfl,q⟩;rw[zZ9,ye6];exact hz
def zz0 :V->List V->Hp->VK->Prop:=λx vs H Q=>∃l xs i k y,x=.ref l/\vs=[.int i]/\H l=some (.lst xs)/\-(2 ^ 63)<=i/\i<2 ^ 63/\seqIndex? i xs.length=some k/\xs[k]?=some y/\Q y (upd H l (.lst (xs.eraseIdx k)))
theorem aY :MtM X "list.pop" zz0:=by
 intro pins s σ H x vs v us Q I g j h;obtain⟨l,xs,i,k,y,rfl,rfl,c,h1,h2,hk,hy,q⟩:=h;cases g;obtain⟨u,rfl,f⟩:=j.one;obtain⟨t,rfl⟩:=f;obtain⟨z,a,n,r,d,e⟩:=I.lstM c;obtain⟨w,hw,b⟩:=r.get hy;refine call_meets F.slot_list_pop ⟨_,e,rfl⟩ F.entry_list_pop (F.args_list_pop_2 _ _)
  (MeetsSeq.list_pop_at l a.toArray n i t k w (fitsIndex_both h1 h2) (by rw[zZ0,<-d];exact hk) (by rw[<-Array.getElem?_toList];exact hw) (by rw[zZ0];exact zY1 (zZ3 d.symm) z)) ⟨e,?_⟩
 refine⟨y,_,I.lset (its':=a.eraseIdx k) c e ?_ (r.eraseIdx k) ?_,b,q⟩
 ·show a.toArray.eraseIdxIfInBounds k=(a.eraseIdx k).toArray;rw[List.eraseIdxIfInBounds_toArray]
 ·have:=qM xs k;exact zY1 this z
def zU3 :R2:=λx y H Q=>∃l b xs zs,x=.ref l/\y=.ref b/\H l=some (.lst xs)/\H b=some (.lst zs)/\xs.length+zs.length<=sizeLine/\∀p,H p=none->Q (.ref p) (upd H p (.lst (xs++zs)))
theorem zH8 :OpR X (binaryOp .Add) zU3:=by
 intro pins s σ H x y v u Q I o f h;obtain⟨l,b,xs,zs,rfl,rfl,i,g,hz,q⟩:=h;cases o;cases f;obtain⟨z,c,n,r,k,e⟩:=I.lstM i;obtain⟨t,a,w,j,d,m⟩:=I.lstM g;refine PySem.P.add_list e m ?_ (by rw[zZ0,zZ0];exact zJ2 hz k d);have p:c.toArray++a.toArray=(c++a).toArray:=by simp
 rw[p];exact⟨.ref _,_,I.lnew (t':=s.toks) (r.append j) (by rw[zZ9];exact hz),rfl,q _ I.fresh⟩
end
section
variable {prog:Program}{w:World}{A:Around}{E:Value->Shared->Prop}{s:Shared}
end
section
variable {X:Cx}
end
end L2
namespace Att
open PySem PySem.W PySem.Calls PyProof.Rows
theorem tD {P:Params}{h:Heap}:∀(ns:List Int) (vs:List Value),WellAll P h vs (ns.map WData.int)->IntsAre vs ns:=by
 intro ns
 induction ns with
 |nil=>
  intro vs w;rw[ya5]at w;cases w;exact .nil
 |cons n ns c=>
  intro vs w;rw[zZ2]at w;cases w with
  |cons a b=>
   cases a;exact .cons _ _ (c _ b)
theorem gg {l:OpenLaw}{n:Nat}(hn:l.most=some n){P:Params}{h:Heap}{args:List WData}{vals:List Value}
  (b:l.row.toRowW.claim.pre args=true) (g:WellAll P h vals args):
  ∃a vs ns,vals=[Value.ref a]/\args=[WData.list (ns.map WData.int)]/\h.get? a=some {cls:=.type "list",data:=.seq vs.toArray}/\IntsAre vs ns/\ns.length<=n:=by
 have i:WShape.hasAll [] args [.list .int]=true:=(pre_splitW b).1;have j:l.pre.holds [] {args:=args}=true:=(pre_splitW b).2;obtain⟨d,r,rfl,h1,h2⟩:=hasAllW_cons i;obtain rfl:=hasAllW_nil h2;obtain⟨xs,rfl,h3⟩:=hasW_list h1;obtain⟨ns,rfl⟩:=items_int h3;have hlen:ns.length<=n:=by
  unfold OpenLaw.pre at j;have f:(WTm.not (.lt (.lit (.int (n:Int))) (.len (.arg 0)))).holds [] {args:=[.list (ns.map .int)]}=true:=by
   have f:=(holds_andW j).1;rw[hn]at f;exact f
  have e:=condW_of f (w_not (w_lt w_lit (w_len_list (w_arg rfl))));rw[zX0]at e;refine z66 λq=>?_;have k:(n:Int)<((ns.length:Nat):Int):=(Int.ofNat_lt.2 q)
  first
   |(rw[z02 k]at e;exact absurd e (by decide))
   |(simp at e;omega)
 cases g with
 |cons o m=>
  cases m;cases o with
  |list p c=>exact⟨_,_,ns,rfl,rfl,p,tD ns _ c,hlen⟩
theorem gX (l:OpenLaw)(args:List WData):l.row.toRowW.claim.post args (.bool true) args=true:=
 postW_of (r:=l.row.toRowW) (X:=(true == true))
  (show WShape.has [] (.bool true) .bool=true by first|rfl|decide|simp[WShape.has,WShape.arms,WShape.armsAll])
  (show(WTm.eq .res (.lit (.bool true))).value [] {args:=args,res:=some (.bool true),after:=args}=some (.bool (true == true))from w_eq_bool (w_res rfl) w_lit) rfl
theorem attach_call {l:OpenLaw}{n:Nat}{q:Program}{loose:List Str}{m:(Str->Option Value)->Heap->Prop}{p:World->Heap->Prop}{d:DefRec}
  (hn:l.most=some n) (hdf:d.params.defaults=[])
  (call:∀(w:World) (s₀ b:Shared) (mg mb:Str->Option Value) (c:Addr) (o:Obj) (pm cd doc:Value) (a:Addr) (vs:List Value) (ns:List Int),
   Ground q loose [] m w s₀ mg mb b.heap->p w b.heap->
   b.heap.get? c=some o->o.data=.func (docDef d.name d.params d.body d.scope pm cd doc)->b.heap.CodeRec cd d.name->mg d.name=some (.ref c)->
   b.heap.get? a=some {cls:=.type "list",data:=.seq vs.toArray}->IntsAre vs ns->ns.length<=n->b.gens=#[]->
   codeAny (model l.prog w) callerA (.call (.ref c) ⟨[.ref a],[]⟩) (λr s'=>r=.ok (.ret (.bool true))/\OldK b.heap s'.heap/\s'.os=b.os/\AllBare s'.gens) b):
  WalkO q loose m p l.row.toRowW d [] (λf vs=>PySem.call f vs):=by
 intro w s₀ b mg mb G Y c o pm cd doc dV kV u hd i s j hg args vals as e k x h v;obtain rfl:dV=.none:=Dflts.none s hdf;obtain rfl:kV=.none:=Dflts.noKw s;obtain⟨a,vs,ns,rfl,rfl,g,hints,hlen⟩:=gg hn e h;refine enter_call (yf1 (call w s₀ b mg mb c o pm cd doc a vs ns G Y u (fd_plain hd) i j g hints hlen hg) λr s' hq=>?_);obtain⟨rfl,h2,h3,t⟩:=hq;exact⟨.inl ⟨.bool true,.bool true,[],rfl,λ_=>rfl,.bool true,gX l _,λ_=>⟨List.Pairwise.nil,λ_ hm=>(nomatch hm)⟩⟩,h2,h3,t⟩
section
variable {prog:Program}{w:World}{A:Around}{E:Value->Shared->Prop}{s:Shared}{K:Frag}
end
end Att
namespace L2
open PySem PySem.Spec PyProof.Rows
theorem gB {vs:List Value}{ns:List Int}(h:IntsAre vs ns):Vals (ns.map V.int) vs:=by
 induction h with
 |nil=>exact .nil
 |cons n t _ a=>exact .cons ⟨t,rfl⟩ a
def inClass (s:Stmt)(j:Nat):Stmt:=match s with
 |.ClassDef _ _ _ body _ _ _ _ _ _ _=>body.getD j (.Pass ⟨0,0,0,0⟩)
 |_=>.Pass ⟨0,0,0,0⟩
def zR (s:Stmt):Arguments:=match s with
 |.FunctionDef _ a _ _ _ _ _ _ _ _=>a
 |_=>{posonlyargs:=[],args:=[],vararg:=none,kwonlyargs:=[],kw_defaults:=[],kwarg:=none,defaults:=[]}
def zu (s:Stmt):List Stmt:=match s with
 |.FunctionDef _ _ b _ _ _ _ _ _ _=>b
 |_=>[]
def zg (s:Stmt):Scope:=match s with
 |.FunctionDef _ _ _ _ _ _ sc _ _ _=>sc
 |_=>{kind:=.function,names:=[],isGenerator:=false,isCoroutine:=false}
abbrev CX0 :CXT:=λ_ _ _ _ _ _=>False
abbrev E0 :XK:=λ_ _ _=>False
theorem rL {X:Cx}:Passes CX0 X E0:=λ_ _ _ _ _ _ _ h=>h.elim
structure Fun (K:PySem.W.Frag)(x qual:Str)(st:Stmt)(f:Addr)(fd:FuncData):Prop where
 ex:∃(oc:Value) (od:Option Addr) (kV doc pm:Value) (an:Option Addr) (cdv ct:Value) (osl:Array (Option Value)),
  fd=PySem.W.fnOf x qual (zR st) (zu st) (zg st) .none kV doc pm an cdv ct/\K.lookup f=some ⟨oc,od,.func fd,osl⟩/\PySem.W.codeIn K cdv qual=true
 kp:PySem.W.keepIn K (.ref f)=true
section
variable {P:Program}{w:World}{K:PySem.W.Frag}{mg:Str->Option Value}{base:Heap}
theorem Fun.ok {x qual:Str}{st:Stmt}{f:Addr}{fd:FuncData}{N ps:List Str}{k:Nat}{sp:Sp}(F:Fun K x qual st f fd)(S:ya N ps (zg st))(len:∀vs H Q E,sp vs H Q E->vs.length=ps.length)
  (a:∀(cdv:Value) (A:Around) (outer:List Env) (s:Shared) (H:Hp) (vs:List V) (Q:VK) (E:XK),zM k (A.deeper (envOfC qual (zg st) s.heap.objs.size f cdv))->sp vs H Q E->
   ∃t,PSs (wW CX0 P w K mg base N qual (zg st) f cdv A outer s H E).nox (zu st) t/\t {nx:=λ_ H'=>Q .non H',rt:=Q} (start N vs) H):yC P w K mg base CX0 (k+1) f fd ps sp:=by
 obtain⟨oc,od,kV,doc,pm,an,cdv,ct,osl,rfl,d,b⟩:=F.ex;refine eI d b S len λA outer s H vs Q E hr c=>?_;obtain⟨t,h,q⟩:=a cdv A outer s H vs Q E hr c;exact⟨t,h.nox,q⟩
theorem Fun.binds {x qual:Str}{st:Stmt}{f:Addr}{fd:FuncData}{ps:List Str}(F:Fun K x qual st f fd)
  (h:∀(kV doc pm:Value) (an:Option Addr) (cdv ct:Value) (us:List Value),us.length=ps.length->bindArgs (PySem.W.fnOf x qual (zR st) (zu st) (zg st) .none kV doc pm an cdv ct) ⟨us,[]⟩=pure (ps.zip us)):Binds K fd ps []:=by
 obtain⟨oc,od,kV,doc,pm,an,cdv,ct,osl,rfl,b,a⟩:=F.ex;exact .all (h kV doc pm an cdv ct)
theorem ph {x qual:Str}{st:Stmt}{f:Addr}{oc:Value}{od an:Option Addr}{osl:Array (Option Value)}{kV doc pm cdv ct:Value}(l:K.lookup f=some ⟨oc,od,.func (PySem.W.fnOf x qual (zR st) (zu st) (zg st) .none kV doc pm an cdv ct),osl⟩)
  (c:PySem.W.codeIn K cdv qual=true) (k:PySem.W.keepIn K (.ref f)=true):Fun K x qual st f (PySem.W.fnOf x qual (zR st) (zu st) (zg st) .none kV doc pm an cdv ct):=⟨⟨oc,od,kV,doc,pm,an,cdv,ct,osl,rfl,l,c⟩,k⟩
end
theorem yw {n:Nat}(h:n<=1000):n<sizeLine:=zZ5 h (by decide)
section
variable {X:Cx}
theorem pv (i:Nat){x:Str}{pos:Pos}(c:X.N[i]?=some x:=by rfl)(b:Vis X.env.scope x:=by first|exact Or.inl rfl|exact Or.inr (Or.inl rfl)|exact Or.inr (Or.inr rfl))(hd:(x == ("__debug__":Str))=false:=by decide)
  (a:(x == ("__classdict__":Str))=false:=by decide):PE X (.Name x pos) (zz7 i):=xg c b hd a
end
theorem sH {A B:Prop}(h:B):if false=true then A else B:=by
 rw[if_neg zZ8];exact h
theorem rF {A B:Prop}(h:A):if true=true then A else B:=by
 rw[if_pos rfl];exact h
theorem aL {c A B:Prop}[Decidable c](h1:c->A)(h2:¬c->B):if c then A else B:=by
 by_cases h:c
 ·rw[if_pos h];exact h1 h
 ·rw[if_neg h];exact h2 h
def zz (H H':Hp):Prop:=∀b o,H b=some o->H' b=some o
theorem zz.refl (H:Hp):zz H H:=λ_ _ h=>h
theorem zz.trans {H H1 d:Hp}(a:zz H H1)(b:zz H1 d):zz H d:=λc o h=>b c o (a c o h)
theorem zz.free {H H':Hp}(e:zz H H'){l:Addr}(h:H' l=Option.none):H l=Option.none:=by
 cases q:H l with
 |none=>rfl
 |some o=>
  rw[e l o q]at h;cases h
theorem zz.seq {K:PySem.W.Frag}{H H':Hp}{a:Addr}{xs:List V}(e:zz H H')(h:SqL K H a xs):SqL K H' a xs:=by
 rcases h with(h|⟨o,h⟩)|h
 ·exact .inl (.inl (e _ _ h))
 ·exact .inl (.inr ⟨o,e _ _ h⟩)
 ·exact .inr h
def vL (cells:List (Str×Addr)):List (Str×NameKind)->List (Str×Addr)->List (Str×Addr)
 |[],acc=>acc
 |(n,k)::r,acc=>vL cells r (if k=.free then(n,(cells.lookup n).getD 0)::acc else acc)
theorem vt {env:Env}{scope:Scope}(h:∀y∈scope.names,y.2=.free->∃c,env.cells.lookup y.1=some c):
  closureFor scope env=pure (vL env.cells scope.names []):=by
 have key:∀(ns:List (Str×NameKind)) (acc:List (Str×Addr)),(∀y∈ns,y.2=.free->∃c,env.cells.lookup y.1=some c)->
   (forIn ns acc λ(x:Str×NameKind) (r:List (Str×Addr))=>(if(x.2 == NameKind.free)=true then(do let a <-cellOf env x.1;pure (ForInStep.yield ((x.1,a)::r)))else pure (ForInStep.yield r):Sem (ForInStep (List (Str×Addr)))))=pure (vL env.cells ns acc):=by
  intro ns
  induction ns with
  |nil=>intro acc _;rfl
  |cons y r d=>
   intro acc hy;obtain⟨n,k⟩:=y;rw[yf5];have hr:∀z∈r,z.2=.free->∃c,env.cells.lookup z.1=some c:=λz hz=>hy z (zX8 _ hz);by_cases hk:k=.free
   ·subst hk;obtain⟨c,e⟩:=hy (n,.free) zX9 rfl;have e1:cellOf env n=pure c:=by
     unfold cellOf;rw[e]
    have b:((NameKind.free == NameKind.free)=true):=rfl;simp only[b,z92,e1,pure_bind];rw[d _ hr];show _=pure (vL env.cells r (if NameKind.free=NameKind.free then(n,(env.cells.lookup n).getD 0)::acc else acc));rw[if_pos rfl,e];rfl
   ·have b:(k == NameKind.free)=false:=by simpa using hk
    simp only[b,z25,z65,pure_bind];rw[d _ hr];show _=pure (vL env.cells r (if k=NameKind.free then(n,(env.cells.lookup n).getD 0)::acc else acc));rw[if_neg hk]
 have q:=key scope.names [] h;unfold closureFor;simp only[]at q ⊢;rw[show(forIn scope.names ([]:List (Str×Addr)) λ(x:Str×NameKind) (r:List (Str×Addr))=>_)=_ from q];rfl
theorem oB {cells:List (Str×Addr)}:∀(ns:List (Str×NameKind)) (acc:List (Str×Addr)),(∀y∈ns,y.2=.free->∃c,cells.lookup y.1=some c)->
  ∀x c,(x,c)∈vL cells ns acc->(x,c)∈acc\/((x,NameKind.free)∈ns/\cells.lookup x=some c)
 |[],acc,_,x,c,h=>.inl h
 |(n,k)::r,acc,hy,x,c,h=>by
  have hr:∀z∈r,z.2=.free->∃c,cells.lookup z.1=some c:=λz hz=>hy z (zX8 _ hz);have h':(x,c)∈vL cells r (if k=.free then(n,(cells.lookup n).getD 0)::acc else acc):=h;rcases oB r _ hr x c h' with q|⟨g,d⟩
  ·by_cases hk:k=.free
   ·rw[if_pos hk]at q;rcases zX6.mp q with e|q
    ·obtain⟨c',i⟩:=hy (n,k) zX9 hk;have e1:x=n:=congrArg Prod.fst e;have b:c=(cells.lookup n).getD 0:=congrArg Prod.snd e;have a:cells.lookup n=some c':=i;rw[a]at b;have f:c=c':=b;subst e1 f hk;exact .inr ⟨zX9,a⟩
    ·exact .inl q
   ·rw[if_neg hk]at q;exact .inl q
  ·exact .inr ⟨zX8 _ g,d⟩
theorem oQ {cells:List (Str×Addr)}:∀(ns:List (Str×NameKind)) (acc:List (Str×Addr)) (p:Str×Addr),p∈acc->p∈vL cells ns acc
 |[],_,_,h=>h
 |(n,k)::r,acc,p,h=>by
  show p∈vL cells r (if k=.free then(n,(cells.lookup n).getD 0)::acc else acc);refine oQ r _ p ?_;split
  ·exact zX8 _ h
  ·exact h
theorem nB {cells:List (Str×Addr)}:∀(ns:List (Str×NameKind)) (acc:List (Str×Addr)) (x:Str),(x,NameKind.free)∈ns->∃c,(x,c)∈vL cells ns acc
 |[],_,_,h=>by simp at h
 |(n,k)::r,acc,x,h=>by
  show ∃c,(x,c)∈vL cells r (if k=.free then(n,(cells.lookup n).getD 0)::acc else acc);rcases zX6.mp h with e|h
  ·have e1:x=n:=congrArg Prod.fst e;have a:NameKind.free=k:=congrArg Prod.snd e;subst e1 a;rw[if_pos rfl];exact⟨_,oQ r _ _ zX9⟩
  ·exact nB r _ x h
theorem mem_lookup {x:Str}{c:Addr}:∀{l:List (Str×Addr)},(x,c)∈l->∃d,l.lookup x=some d
 |[],h=>by simp at h
 |(n,a)::r,h=>by
  rw[z32];cases e:x == n with
  |true=>exact⟨a,rfl⟩
  |false=>
   rcases zX6.mp h with q|q
   ·have e1:x=n:=congrArg Prod.fst q;rw[e1]at e;simp at e
   ·exact mem_lookup q
structure zJ (XN:List Str)(xs:Scope)(N:List Str)(imp:List (Option Nat))(scope:Scope):Prop where
 kind:scope.kind=.function
 nd:N.Nodup
 nocell:∀y∈scope.names,y.2≠.cell
 locs:∀y∈scope.names,y.2=.local->scope.names.lookup y.1=some .local
 frees:∀y∈scope.names,y.2=.free->xs.names.lookup y.1=some .cell\/xs.names.lookup y.1=some .free
 len:imp.length=N.length
 impsB:((imp.zip N).all λp=>match p.1 with|none=>true|some j=>XN[j]? == some p.2&&scope.names.lookup p.2 == some .free)=true
theorem zJ.imps {XN N:List Str}{xs scope:Scope}{imp:List (Option Nat)}(S:zJ XN xs N imp scope):∀(i j:Nat),imp[i]?=some (some j)->∃x,N[i]?=some x/\XN[j]?=some x/\scope.names.lookup x=some .free:=by
 intro i j h;have hi:i<imp.length:=(zX5.mp h).1;have hn:i<N.length:=by rw[<-S.len];exact hi
 have b:N[i]?=some N[i]:=zX3 hn;have hm:(some j,N[i])∈imp.zip N:=by
  have hz:(imp.zip N)[i]?=some (some j,N[i]):=by
   rw[List.getElem?_zip_eq_some];exact⟨h,b⟩
  exact z23 hz
 have q:=z67.mp S.impsB _ hm;have a:(XN[j]? == some N[i]&&scope.names.lookup N[i]==some .free)=true:=q;rw[z24]at a;exact⟨N[i],b,eq_of_beq a.1,eq_of_beq a.2⟩
def xX (imp:List (Option Nat))(σ:St):St:=imp.map λo=>o.bind λj=>(σ[j]?).bind id
theorem iI {imp:List (Option Nat)}{σ:St}{i:Nat}{v:V}(h:(xX imp σ)[i]?=some (some v)):∃j,imp[i]?=some (some j)/\σ[j]?=some (some v):=by
 unfold xX at h;rw[zY3]at h;cases e:imp[i]? with
 |none=>rw[e]at h;cases h
 |some o=>
  rw[e]at h;have h':(o.bind λj=>(σ[j]?).bind id)=some v:=z00 h;cases o with
  |none=>cases h'
  |some j=>
   have h2:(σ[j]?).bind id=some v:=h';cases e2:σ[j]? with
   |none=>rw[e2]at h2;cases h2
   |some w=>
    rw[e2]at h2;have h3:w=some v:=h2;exact⟨j,rfl,by rw[e2,h3]⟩
def Cx.comp (X:Cx)(N:List Str)(scope:Scope)(C:Addr)(s2:Shared)(a:Hp)(fp:List Addr):Cx where
 prog:=X.prog
 w:=X.w
 K:=X.K
 mg:=X.mg
 base:=X.base
 A:=X.A
 N:=N
 s₀:=s2
 H₀:=a
 env:=compEnvC scope (vL X.env.cells scope.names []) C X.env
 outer:=X.stack
 stack:=X.stack
 ex:=fp
 fn:=λ_=>false
 calm:=X.calm
 pn:=[]
 xe:=λ_ _=>False
theorem ub {env:Env}:∀{names:List (Str×NameKind)}{x:Str},
  (names.map λ(n,k)=>if(k == NameKind.free&&env.scope.kind == .function&&env.kindOf n == some .cell)then(n,NameKind.cell)else(n,k)).lookup x=some .cell\/
  (names.map λ(n,k)=>if(k == NameKind.free&&env.scope.kind == .function&&env.kindOf n == some .cell)then(n,NameKind.cell)else(n,k)).lookup x=some .free->
  (∀y∈names,y.2≠.cell)->(x,NameKind.free)∈names
 |[],x,h,_=>by simp at h
 |(n,k)::r,x,h,hc=>by
  have f:=@ub env r x;rw[zZ2]at h;dsimp only at h;by_cases d:x=n
  ·subst d;by_cases hk:k=.free
   ·subst hk;exact zX9
   ·have c:(k == NameKind.free)=false:=by simpa using hk
    simp only[c,ya3,z25,z65,z32,beq_self_eq_true,z92]at h;rcases h with h|h
    ·have e:k=.cell:=z00 h;exact absurd e (hc (x,k) zX9)
    ·have e:k=.free:=z00 h;exact absurd e hk
  ·have a:(x == n)=false:=by simpa using d
   have step:∀(b:Bool) (l:List (Str×NameKind)),List.lookup x ((if b=true then(n,NameKind.cell)else(n,k))::l)=l.lookup x:=λb l=>by
    cases b<;>simp[z32,a]
   rw[step]at h;exact zX8 _ (f h λy hy=>hc y (zX8 _ hy))
theorem uU {env:Env}:∀{names:List (Str×NameKind)}{x:Str},names.lookup x=some .free->
  (names.map λ(n,k)=>if(k == NameKind.free&&env.scope.kind == .function&&env.kindOf n == some .cell)then(n,NameKind.cell)else(n,k)).lookup x=some .cell\/
  (names.map λ(n,k)=>if(k == NameKind.free&&env.scope.kind == .function&&env.kindOf n == some .cell)then(n,NameKind.cell)else(n,k)).lookup x=some .free
 |[],x,h=>by simp at h
 |(n,k)::r,x,h=>by
  have a:=@uU env r x;rw[zZ2];dsimp only;rw[z32]at h;cases hx:x == n with
  |true=>
   rw[hx]at h;have e:k=.free:=z00 h;subst e;by_cases hb:(NameKind.free == NameKind.free&&env.scope.kind == .function&&env.kindOf n == some .cell)=true
   ·left;rw[if_pos hb];simp[z32,hx]
   ·right;rw[if_neg hb];simp[z32,hx]
  |false=>
   rw[hx]at h;have step:∀(b:Bool) (l:List (Str×NameKind)),List.lookup x ((if b=true then(n,NameKind.cell)else(n,k))::l)=l.lookup x:=λb l=>by
    cases b<;>simp[z32,hx]
   rw[step];exact a h
section
variable {X:Cx}{pins:List (Addr×Obj)}{σ:St}{H2 H':Hp}{s2 s':Shared}{fp:List Addr}{N:List Str}{imp:List (Option Nat)}{scope:Scope}{C acc:Addr}
theorem vG (I:Inv X pins σ H2 s2)(S:zJ X.N X.env.scope N imp scope):∀y∈scope.names,y.2=.free->∃c,X.env.cells.lookup y.1=some c:=λy hy hk=>I.ok.has y.1 (S.frees y hy hk)
theorem xu (I:Inv X pins σ H2 s2)(S:zJ X.N X.env.scope N imp scope){x:Str}{c:Addr}(h:(vL X.env.cells scope.names []).lookup x=some c):(x,NameKind.free)∈scope.names/\X.env.cells.lookup x=some c:=by
 rcases oB scope.names [] (vG I S) x c (z36 h)with q|q
 ·exact absurd q (by simp)
 ·exact q
theorem vY (I:Inv X pins σ H2 s2)(S:zJ X.N X.env.scope N imp scope){x:Str}(h:(x,NameKind.free)∈scope.names):∃c,(vL X.env.cells scope.names []).lookup x=some c:=by
 obtain⟨c,a⟩:=nB (cells:=X.env.cells) scope.names [] x h;exact mem_lookup a
theorem cT {h1:Heap}{tk:Nat}{m:Str->Option Value}{H:Nat}(I:Inv X pins σ H2 s2)(S:zJ X.N X.env.scope N imp scope)(hf:∀b∈fp,yZ X pins H2 b)(Q:∀b∈fp,∃o,s2.heap.get? b=some o)
  (a:acc=s2.heap.objs.size) (n:C=s2.heap.objs.size+1) (old:∀b o,s2.heap.get? b=some o->h1.get? b=some o) (hn:h1.Ns C m)
  (M:h1.get? acc=some {cls:=.type "list",data:=.seq ([]:List Value).toArray H}):
  Inv (X.comp N scope C s2 H2 fp) [] (xX imp σ) (upd H2 acc (.lst [])) {s2 with heap:=h1,toks:=tk}:=by
 have O:H2 acc=none:=I.hok.fresh (by rw[a];exact zX7 _);have A:C≠acc:=by rw[n,a];exact Nat.succ_ne_self _
 have w:∀x c,X.env.cells.lookup x=some c->c<s2.heap.objs.size:=λx c e=>by
  obtain⟨v,q⟩:=I.cell x c e;exact q.lt
 refine⟨⟨I.ok.mod,S.kind,I.ok.glob,I.ok.blt,?above,?inj,?has,?cab,I.ok.hd,I.ok.frames,.inl rfl,?exf,λb o e=>I.bs b o e,zY1 I.ok.bsz I.sz,?noex,?exfs,I.stack,I.stkFree⟩,
  rfl,I.bare,Un.laid old (by rw[a];exact zX7 _) O,⟨m,hn,?loc⟩,?cell,?free,?freeC,λp L=>absurd (show p∈([]:List (Addr×Obj))from L) (by simp),I.hok.laid old (by rw[a];exact zX7 _) ⟨zY9 _,[],H,.nil,M⟩,?len⟩
 case above=>show s2.heap.objs.size<=C;rw[n];exact z76 _
 case inj=>exact λx y c h1 h2=>I.ok.inj x y c (xu I S h1).2 (xu I S h2).2
 case has=>exact λx U=>vY I S (ub (env:=X.env) U S.nocell)
 case cab=>exact λx c h _=>absurd h (by show ¬(false=true);simp)
 case exf=>
  intro b hb;obtain⟨o,t⟩:=Q b hb;refine⟨?_,λx c e=>(hf b hb).2.2.2.2.1 x c (xu I S e).2⟩;show b≠C;rw[n];exact zZ6 (ye0 (zY4 t))
 case noex=>
  intro b o e hb;rcases(hf b hb).2.2.2.1 with z|z
  ·exact I.ok.noex b o e z
  ·exact absurd (zX4 (zY4 e) (zY1 I.ok.bsz z)) (z26 _)
 case exfs=>
  intro b hb hz;rcases zX6.mp (I.stkSub b hz)with e|e
  ·exact(hf b hb).2.1 e
  ·exact(hf b hb).2.2.1 e
 case loc=>
  intro i x v e1 W Y;obtain⟨j,P,T⟩:=iI W;obtain⟨y,n1,V,G⟩:=S.imps i j P;have E:(X.comp N scope C s2 H2 fp).N[i]?=some y:=n1;rw[E]at e1;have D:y=x:=z00 e1;subst D;have g:=S.frees (y,.free) (z36 G) rfl;obtain⟨Z,R,B⟩:=I.loc;obtain⟨u,r,l⟩:=B j y v V T (.inr g);refine⟨u,r,?_⟩;rcases l with⟨k,_⟩|⟨k,c,e,z⟩
  ·have K:X.env.scope.names.lookup y=some .local:=k;rcases g with z|z
   ·have f:X.env.scope.names.lookup y=some .cell:=z;rw[K]at f;cases f
   ·have f:X.env.scope.names.lookup y=some .free:=z;rw[K]at f;cases f
  ·obtain⟨d,hd⟩:=vY I S (z36 G);have hd2:=(xu I S hd).2;rw[e]at hd2;have s:c=d:=z00 hd2;subst s;exact .inr ⟨uU (env:=X.env) G,c,hd,z.keeps old⟩
 case cell=>
  intro x c e;obtain⟨v,q⟩:=I.cell x c (xu I S e).2;exact⟨v,q.keeps old⟩
 case free=>
  show upd H2 acc _ C=none;rw[zb A];exact I.hok.fresh (by rw[n];exact z76 _)
 case freeC=>
  intro x c e;have J:=(xu I S e).2;have F:=w x c J;show upd H2 acc _ c=none;rw[zb (by rw[a];exact zZ6 F)];exact I.freeC x c J
 case len=>
  show(xX imp σ).length=N.length;unfold xX;rw[zX0];exact S.len
theorem iJ {pl:List (Addr×Obj)}{a:St}(I:Inv X pins σ H2 s2)(hf:∀b∈fp,yZ X pins H2 b)(J:Inv (X.comp N scope C s2 H2 fp) pl a H' s'):Inv X pins σ H' s':=
 I.call' (ch:=fp) J.os J.base J.hok J.bare λb hb=>⟨(hf b hb).2.2.2.1,(hf b hb).2.1,(hf b hb).2.2.2.2.1,(hf b hb).2.2.2.2.2⟩
end
section
variable {prog:Program}{w:World}{A:Around}{R:Result->Shared->Prop}{s:Shared}
theorem pU {elt target iter:Expr}{ifs:List Expr}{scope:Scope}{pos:Pos}{it acc:Value}{env:Env}(I:Nat->Shared->Prop)
  (turn:∀n s,I n s->wpAny (model prog w) A (pyNext it) (λr s1=>match r with
   |none=>R (.ok .next) s1
   |some v=>wpAny (model prog w) A (letOwnedTupleGo target it v) (λ_ s2=>wpAny (model prog w) A (assign target env v) (λ_ s3=>
     wpAny (model prog w) A (forIn ifs true λc r=>if r=true then do let ok <-isTrue c env (eval c env);pure (ForInStep.yield ok)else pure (ForInStep.yield r)) (λok s4=>
      if ok=true then wpAny (model prog w) A (eval elt env) (λx s5=>
       wpAny (model prog w) A (call (.builtin "list.append") [acc,x]) (λ_ a=>∃m,m<n/\I m a) (λ_ _=>False) s5) (λ_ _=>False) s4
      else ∃m,m<n/\I m s4) (λ_ _=>False) s3) (λ_ _=>False) s2) (λ_ _=>False) s1) (λ_ _=>False) s)
  (n:Nat) (h:I n s):codeAny (model prog w) A (.compLoop (.ListComp elt [⟨target,iter,ifs,0⟩] scope pos) 0 it acc env) R s:=by
 refine codeAny_loop rfl I (λn s e=>?_) n h;show wpAny _ A ((compTurn (.ListComp elt [⟨target,iter,ifs,0⟩] scope pos) 0 it acc env).onRaise (λx=>do noteFrame x env;theTreesLotGoes x)) _ _ s;refine wpAny_noted ?_;rw[compTurn_list];refine zX1 (wpAny_standAt (zX1 (z29 (turn n s e) (λr s1 h1=>?_) λ_ _ h'=>False.elim h')));cases r with
 |none=>exact zY6 h1
 |some v=>
  refine zX1 (z29 h1 (λ_ s2 h2=>?_) λ_ _ h'=>False.elim h');refine zX1 (z29 h2 (λ_ s3 h3=>zX1 (z29 h3 (λok s4 b=>?_) λ_ _ h'=>False.elim h')) λ_ _ h'=>False.elim h');cases ok with
  |false=>exact zY6 ⟨rfl,b⟩
  |true=>
   exact zX1 (zX1 (z29 b (λx s5 d=>zX1 (z29 d (λ_ a f=>zY6 (zY6 ⟨rfl,f⟩)) λ_ _ h'=>False.elim h')) λ_ _ h'=>False.elim h'))
end
def wO (Y:Cx)(ifs:List Expr)(t:TT):Prop:=
 ∀(pins:List (Addr×Obj)) (s:Shared) (σ:St) (H:Hp) (Q:Bool->Hp->Prop),Inv Y pins σ H s->t σ H Q->
  wpAny (model Y.prog Y.w) Y.A (forIn ifs true λc r=>if r=true then do let ok <-isTrue c Y.env (eval c Y.env);pure (ForInStep.yield ok)else pure (ForInStep.yield r)) (TP Y pins σ Q) Y.xe s
def zV2 :TT:=λ_ H Q=>Q true H
theorem zn6 {Y:Cx}:wO Y [] zV2:=λ_ _ _ H _ I h=>wpAny_tests_nil ⟨H,I,h⟩
theorem jw {Y:Cx}{c:Expr}{t:TT}(h:PT Y c t):wO Y [c] t:=λpins s σ H Q I q=>wpAny_tests_one (h pins s σ H Q I q)
def qZ (J:It)(acc:Addr)(g:TG)(tt:TT)(n:TE)(e:St)(H0:Hp)(Q:VK):Prop:=
 ∃W:Nat->Nat->List V->St->Hp->Prop,(∃m,W 0 m [] e H0)/\∀i m ys l d,W i m ys l d->
  (J.stop i d/\Q (.ref acc) d)\/(J.go i d/\∃N:List V->St->Hp->Prop,(∀a b H',N a b H'->∃h,h<m/\W (i+1) h a b H')/\
   ∀x f,J.yld i d x f->g x l f λτ2 o=>tt τ2 o λc j=>
    if c=true then n τ2 j λy k=>k acc=some (.lst ys)/\ys.length<sizeLine/\N (ys++[y]) τ2 (upd k acc (.lst (ys++[y])))else N ys τ2 j)
def dY (b:TI)(imp:List (Option Nat))(g:TG)(tt:TT)(a:TE):TE:=λσ H Q=>b σ H λJ H1=>∀acc,H1 acc=none->qZ J acc g tt a (xX imp σ) (upd H1 acc (.lst [])) Q
section
variable {X:Cx}{pins:List (Addr×Obj)}{σ:St}{elt iter tg:Expr}{ifs:List Expr}{scope:Scope}{pos:Pos}{wi:TI}{g:TG}{tt:TT}{te:TE}{N:List Str}{imp:List (Option Nat)}
theorem sy {c:Hp}{s2:Shared}{it:Addr}{fp:List Addr}{tn:Nat->Heap->Prop}{J:It}{RR:Value->Addr->Result->Shared->Prop}{E:Value->Shared->Prop}{Q:VK}
  (hc:X.calm=true) (S:zJ X.N X.env.scope N imp scope) (hg:∀C s2 c fp,PG (X.comp N scope C s2 c fp) tg g) (ht:∀C s2 c fp,wO (X.comp N scope C s2 c fp) ifs tt) (he:∀C s2 c fp,PE (X.comp N scope C s2 c fp) elt te)
  (Y:Inv X pins σ c s2) (T:Turn X.prog X.w X.K tg J fp it tn) (G:tn 0 s2.heap) (f2:∀b∈fp,yZ X pins c b)
  (hW:∀acc,c acc=none->qZ J acc g tt te (xX imp σ) (upd c acc (.lst [])) Q)
  (b3:∀a C H' s' m,Inv X pins σ H' s'->s'.heap.Ns C m->yZ X pins H' C->Q (.ref a) H'->RR (.ref a) C (.ok .next) s'):
  wpAny (model X.prog X.w) X.A (newList []) (λacc s3=>wpAny (model X.prog X.w) X.A (newFunctionEnv scope X.env.globals (vL X.env.cells scope.names []) [] X.env.qual none .none (some X.env)) (λt s4=>
   codeAny (model X.prog X.w) X.A (.compStart (.ListComp elt [⟨tg,iter,ifs,0⟩] scope pos) 0 (.ref it) acc {t with scope:=relabel scope X.env}) (RR acc t.locals) s4) E s3) E s2:=by
 refine wpAny_newObj_type (wpAny_newFunctionEnv S.nocell (by intro y hy;simp at hy) (λh1 k j=>?_) S.kind);dsimp only at k j ⊢;generalize F:s2.heap.push {cls:=.type "list",dict:=none,data:=.seq ([]:List Value).toArray}=HH at k j ⊢;have R:HH.objs.size=s2.heap.objs.size+1:=by rw[<-F,z44]
 have I:s2.heap.objs.size≠HH.objs.size:=by rw[R];exact zZ6 (z34 _)
 have old:∀b o,s2.heap.get? b=some o->h1.get? b=some o:=λb o e=>j.extBut b o (by rw[R];exact zZ6 (ye0 (zY4 e))) (zX2 _ (F▸zX2 _ e));have P:h1.get? s2.heap.objs.size=some {cls:=.type "list",data:=.seq ([]:List Value).toArray}:=j.extBut _ _ I (zX2 _ (F▸zY5 _ rfl));obtain⟨W,⟨m0,w0⟩,turn⟩:=hW s2.heap.objs.size Y.fresh;generalize b7:HH.objs.size=C at k j R I ⊢;have ho:∀b∈fp,∃o,s2.heap.get? b=some o:=λb hb=>let⟨o,e,_⟩:=T.obj 0 _ G b hb;⟨o,e⟩;generalize f:s2.heap.objs.size=acc at *;have loop:∀s3:Shared,s3={s2 with heap:=h1,toks:=s2.toks+([]:List (Str×Value)).length}->
   codeAny (model X.prog X.w) X.A (.compLoop (.ListComp elt [⟨tg,iter,ifs,0⟩] scope pos) 0 (.ref it) (.ref acc) (X.comp N scope C s2 c fp).env) (RR (.ref acc) C) s3:=by
  rintro s3 rfl;have I3:Inv (X.comp N scope C s2 c fp) [] (xX imp σ) (upd c acc (.lst [])) {s2 with heap:=h1,toks:=s2.toks+([]:List (Str×Value)).length}:=
   cT Y S f2 ho f.symm (by rw[R,f]) old k P
  have b4:∀b∈fp,upd c acc (.lst []) b=none:=λb hb=>by
   obtain⟨o,e⟩:=ho b hb;rw[zb (by rw[<-f];exact zZ6 (zY4 e))];exact(f2 b hb).1
  have l:∀{H':Hp},(∀b∈fp,H' b=none)->∀b∈fp,yZ (X.comp N scope C s2 c fp) [] H' b:=λhn b hb=>by
   obtain⟨e1,e2⟩:=I3.ok.exf b hb;exact⟨hn b hb,e1,I3.ok.exfs b hb,.inl hb,e2,λp hp=>absurd (show p∈([]:List (Addr×Obj))from hp) (by simp)⟩
  refine pU (λn s'=>∃i ys q H',Inv (X.comp N scope C s2 c fp) [] q H' s'/\tn i s'.heap/\(∀b∈fp,H' b=none)/\W i n ys q H') ?_ m0
   ⟨0,[],_,_,I3,T.keep _ _ _ G λb _ o e=>old b o e,b4,w0⟩
  rintro n s4 ⟨i,ys,q,Z,I4,M,U,w4⟩;rcases turn i n ys q Z w4 with⟨stop,qn⟩|⟨go,NN,hN,step⟩
  ·refine z29 (T.done (X.comp N scope C s2 c fp) rfl rfl rfl hc i [] s4 q Z (λ_ _=>False) I4 (l U) M stop) (λr s5 a7=>?_) λ_ _ z=>z;obtain⟨hr,I5⟩:=a7;subst hr;obtain⟨m5,a8,_⟩:=id I5.loc;exact b3 acc C Z s5 m5 (iJ Y f2 I5) a8 (Y.fpOk (by rw[R,f];exact z76 _) I5.free) qn
  ·refine z29 (T.item (X.comp N scope C s2 c fp) rfl rfl rfl hc i [] s4 q Z (λ_ _=>False) I4 (l U) M go) (λr s5 b0=>?_) λ_ _ z=>z;obtain⟨u,hr,h5⟩:=b0;subst hr;refine z29 h5 (λ_ s6 a2=>?_) λ_ _ z=>z;obtain⟨x,H6,I6,r6,y6,D,b2⟩:=a2;have a4:=I6.pinned (l b2) (T.obj _ _ D);refine z29 (hg C s2 c fp _ s6 q H6 x u _ a4 r6 (step x H6 y6)) (λ_ s7 a0=>?_) λ_ _ z=>z;obtain⟨h,H7,I7,q7⟩:=a0;refine z29 (ht C s2 c fp _ s7 h H7 _ I7 q7) (λok s8 b1=>?_) λ_ _ z=>z;obtain⟨H8,I8,q8⟩:=b1;have again:∀{s:List V} {B:Hp} {H:Shared},Inv (X.comp N scope C s2 c fp) ([]++sN fp s6.heap) h B H->NN s h B->∃m,m<n/\∃i ys q H',Inv (X.comp N scope C s2 c fp) [] q H' H/\tn i H.heap/\(∀b∈fp,H' b=none)/\W i m ys q H':=λ{s B H} O n9=>by
    obtain⟨m',hm,w9⟩:=hN s h B n9;refine⟨m',hm,i+1,s,h,B,O.unpinned,T.keep _ _ _ D λb hb o e=>(O.pin (b,o) (z07 _ (z07 _ (wx hb e)))).1,λb hb=>?_,w9⟩;obtain⟨o,e,d⟩:=T.obj _ _ D b hb;exact(O.pin (b,o) (z07 _ (z07 _ (wx hb e)))).2.1
   cases ok with
   |false=>
    have a3:NN ys h H8:=by
     have z:=q8;rw[if_neg zZ8]at z;exact z
    rw[if_neg zZ8];exact again I8 a3
   |true=>
    rw[if_pos rfl]at q8 ⊢;refine z29 (he C s2 c fp _ s8 h H8 _ I8 q8) (λv H b5=>?_) λ_ _ z=>z;obtain⟨y,B,O,r9,a9,z9,q9⟩:=b5;refine z29 (qG (X:=X.comp N scope C s2 c fp) _ H h B (.ref acc) [y] (.ref acc) [v] (λ_ L=>L=upd B acc (.lst (ys++[y]))) O rfl (.cons r9 .nil) ⟨acc,ys,y,rfl,rfl,a9,z9,rfl⟩) (λ_ b6 a5=>?_) λ_ _ z=>z;obtain⟨_,L,a6,_,a1⟩:=a5;subst a1;exact again a6 q9
 exact codeAny_compStart_list (loop _ rfl) (T.self X.A 0 _ _ _ (T.keep _ _ _ G λb _ o e=>old b o e) (loop _ rfl))
theorem zw2 (y:X.calm=true)(S:zJ X.N X.env.scope N imp scope)(hi:PI X tg iter wi)(hg:∀C s2 c fp,PG (X.comp N scope C s2 c fp) tg g)(l:∀C s2 c fp,wO (X.comp N scope C s2 c fp) ifs tt)
  (he:∀C s2 c fp,PE (X.comp N scope C s2 c fp) elt te) (r:∀x,foldedSetIterable iter X.env x=pure x:=by intro _;rfl):
  PE X (.ListComp elt [⟨tg,iter,ifs,0⟩] scope pos) (dY wi imp g tt te):=by
 intro pins s σ H Q I h;rw[eval_ListComp];refine wpAny_comprehension_free (use:=none) rfl r (vt (vG I S)) S.kind S.locs (thn (hi pins s σ H _ I h) λv s1 h1=>thn h1 λj s2 h2=>?_);obtain⟨it,fp,tn,J,c,e,n,T,d,f2,hW⟩:=h2;subst e;refine sy (RR:=λacc C=>compPost (model X.prog X.w) X.A X.xe none (EP X pins σ Q) acc C) y S hg l he n T d f2 hW λa C H' s' m t hn f q=>?_;refine⟨m,hn,λh' p=>?_⟩;obtain⟨u,g1,g2,g3,k,i⟩:=f;exact⟨.ref a,H',t.turned (t':=s'.toks) (it:=C) (λb o hb e=>(p.2 b hb).trans e) u g1 g3 k i,rfl,q⟩
theorem dO {i:Nat}{x:Str}{px:Pos}{c:Pos}(P:X.calm=true)(S:zJ X.N X.env.scope N imp scope)(hi:PI X tg iter wi)(hg:∀C s2 d fp,PG (X.comp N scope C s2 d fp) tg g)(z:∀C s2 d fp,wO (X.comp N scope C s2 d fp) ifs tt)
  (he:∀C s2 d fp,PE (X.comp N scope C s2 d fp) elt te) (E:X.N.Nodup) (F:X.N[i]?=some x) (u:Loc X.env.scope x) (p:swapsWith (.ListComp elt [⟨tg,iter,ifs,0⟩] scope pos) (some (.Name x px)) c.line X.env=pure true:=by rfl)
  (hf:X.fn x=true\/X.env.scope.names.lookup x=some .local:=by first|exact .inl rfl|exact .inr rfl|assumption) (L:∀x,foldedSetIterable iter X.env x=pure x:=by intro _;rfl):
  PS X (.Assign [.Name x px] (.ListComp elt [⟨tg,iter,ifs,0⟩] scope pos) c) (zD8 (dY wi imp g tt te) (sg i)):=by
 intro pins s σ H D I h;rw[exec_Assign_Name_used _ _ _ _ p];refine zX1 (wpAny_standAt (zX1 ?_));show wpAny _ X.A (do let _ <-comprehension (.ListComp elt [⟨tg,iter,ifs,0⟩] scope pos) scope X.env _ (newList []) false (eval iter X.env) (some (assign (.Name x px) X.env))) _ _ s;refine zX1 (z29 (wpAny_comprehension_free (use:=some (assign (.Name x px) X.env)) (Q:=λ_ s'=>SP X pins D .next s') rfl L (vt (vG I S)) S.kind S.locs (thn (hi pins s σ H _ I h) λv s1 h1=>thn h1 λy s2 h2=>?_))
  (λ_ s' hq=>zY6 (zY6 hq)) λ_ _ e=>e)
 obtain⟨it,fp,tn,J,d,e,B,T,j,f2,hW⟩:=h2;subst e;refine sy (Q:=λx H1=>sg i x σ H1 D.nx) (RR:=λacc C=>compPost (model X.prog X.w) X.A X.xe (some (assign (.Name x px) X.env)) (λ_ s'=>SP X pins D .next s') acc C) P S hg z he B T j f2 hW λa C H' s' m M hn f q=>?_;show wpAny _ X.A (assign (.Name x px) X.env (.ref a)) _ _ _;obtain⟨O,g1,g2,g3,r,t⟩:=f;refine wpAny_assign_Name (qj M E F u (show RelV (.ref a) (.ref a)from rfl) (λs4 G n=>?_) hf);obtain⟨ad,K,had⟩:=n;have k:C≠ad:=by
  rcases had with e|e
  ·rw[e];exact g1
  ·exact(r x ad e).symm
 refine⟨m,hn.sameBut K k,λh' l=>?_⟩;exact⟨_,H',G.turned (t':=s4.toks) (it:=C) (λb o hb e=>(l.2 b hb).trans e) O g1 g3 r t,q⟩
end
mutual
inductive DV (H:Hp):V->PyData->Prop where
 |non:DV H .non .none
 |bl (b:Bool):DV H (.bl b) (.bool b)
 |int (i:Int):DV H (.int i) (.int i)
 |str (x:Str):DV H (.str x) (.str x)
 |lst {a:Addr}{xs:List V}{ds:List PyData}:H a=some (.lst xs)->DVs H xs ds->DV H (.ref a) (.list ds)
 |tup {a:Addr}{xs:List V}{ds:List PyData}:H a=some (.tup xs)->DVs H xs ds->DV H (.ref a) (.tuple ds)
inductive DVs (H:Hp):List V->List PyData->Prop where
 |nil:DVs H [] []
 |cons {x:V}{xs:List V}{d:PyData}{ds:List PyData}:DV H x d->DVs H xs ds->DVs H (x::xs) (d::ds)
end
theorem zD4 {H:Hp}{m1:V->PyData->Prop}{m2:List V->List PyData->Prop}(f:m1 .non .none)(g:∀b,m1 (.bl b) (.bool b))(e:∀i,m1 (.int i) (.int i))(n:∀x,m1 (.str x) (.str x))
  (p:∀{a:Addr} {xs:List V} {ds:List PyData},H a=some (.lst xs)->m2 xs ds->m1 (.ref a) (.list ds)) (r:∀{a:Addr} {xs:List V} {ds:List PyData},H a=some (.tup xs)->m2 xs ds->m1 (.ref a) (.tuple ds)) (c:m2 [] []) (o:∀{x:V} {xs:List V} {d:PyData} {ds:List PyData},m1 x d->m2 xs ds->m2 (x::xs) (d::ds)):
  (∀x d,DV H x d->m1 x d)/\∀xs ds,DVs H xs ds->m2 xs ds:=by
 let j:=λx d (_:DV H x d)=>m1 x d
 let M2:=λx d (_:DVs H x d)=>m2 x d
 have k:=λ{a} {xs} {ds} (q:H a=some (.lst xs)) (_:DVs H xs ds) (z:m2 xs ds)=>p (a:=a) q z;have l:=λ{a} {xs} {ds} (q:H a=some (.tup xs)) (_:DVs H xs ds) (z:m2 xs ds)=>r (a:=a) q z;have m:=λ{x} {xs} {d} {ds} (_:DV H x d) (_:DVs H xs ds) (y:m1 x d) (z:m2 xs ds)=>o y z;exact⟨λ_ _ h=>@DV.rec H j M2 f g e n k l c m _ _ h,λ_ _ h=>@DVs.rec H j M2 f g e n k l c m _ _ h⟩
theorem DVs.ind {H:Hp}{motive:(xs:List V)->(ds:List PyData)->DVs H xs ds->Prop}(nil:motive [] [] .nil)(cons:∀{x:V}{xs:List V}{d:PyData}{ds:List PyData} (a:DV H x d) (r:DVs H xs ds),motive xs ds r->motive (x::xs) (d::ds) (.cons a r)){xs:List V}{ds:List PyData}(h:DVs H xs ds):motive xs ds h:=
 ((zD4 (m1:=DV H) (m2:=λxs ds=>∃h:DVs H xs ds,motive xs ds h) .non .bl .int .str (λq z=>.lst q z.1) (λq z=>.tup q z.1) ⟨.nil,nil⟩ (λa z=>⟨.cons a z.1,cons a z.1 z.2⟩)).2 _ _ h).2
section
variable {X:Cx}{pins:List (Addr×Obj)}{σ:St}{H:Hp}{s:Shared}
theorem zd8 (I:Inv X pins σ H s):(∀x d,DV H x d->∀u,RelV x u->∃as,Reads s.heap u d as)/\∀xs ds,DVs H xs ds->∀us,Vals xs us->∃as,ReadsAll s.heap us ds as:=by
 refine zD4 (m1:=λx d=>∀u,RelV x u->∃as,Reads s.heap u d as) (m2:=λxs ds=>∀us,Vals xs us->∃as,ReadsAll s.heap us ds as) ?_ ?_ ?_ ?_ ?_ ?_ ?_ ?_
 ·intro u r;cases(show u=Value.none from r);exact⟨_,.none⟩
 ·intro b u r;cases(show u=Value.bool b from r);exact⟨_,.bool b⟩
 ·intro i u r;obtain⟨t,rfl⟩:=(show ∃t,u=Value.int i t from r);exact⟨_,.int i t⟩
 ·intro x u r;obtain⟨t,rfl⟩:=(show ∃t,u=Value.str x t from r);exact⟨_,.str x t⟩
 ·intro a xs ds hq e u r;cases(show u=Value.ref a from r);obtain⟨f,g,p,hz⟩:=I.list (SqL.of hq);obtain⟨o,k,j,n,hd⟩:=p.isList;obtain⟨as,c⟩:=e _ g;exact⟨_,.list k j hd (by simpa using c)⟩
 ·intro a xs ds hq e u r;cases(show u=Value.ref a from r);obtain⟨f,g,p,hz⟩:=I.tuple (SqT.of hq);obtain⟨o,k,j,n,hd⟩:=p;obtain⟨as,c⟩:=e _ g;exact⟨_,.tuple k j hd (by simpa using c)⟩
 ·intro us r;cases r;exact⟨_,.nil⟩
 ·intro x xs d ds h e us r;cases r with
  |cons r rs=>
   obtain⟨as,c⟩:=h _ r;obtain⟨bs,l⟩:=e _ rs;exact⟨_,.cons c l⟩
theorem DV.reads (I:Inv X pins σ H s){x:V}{d:PyData}{u:Value}(h:DV H x d)(r:RelV x u):∃as,Reads s.heap u d as:=(zd8 I).1 _ _ h _ r
end
theorem au {H H':Hp}(e:zz H H'):(∀x d,DV H x d->DV H' x d)/\∀xs ds,DVs H xs ds->DVs H' xs ds:=zD4 .non .bl .int .str (λq=>.lst (e _ _ q)) (λq=>.tup (e _ _ q)) .nil .cons
theorem DV.same {H H':Hp}(e:zz H H'){x:V}{d:PyData}(h:DV H x d):DV H' x d:=(au e).1 _ _ h
theorem DVs.same {H H':Hp}(e:zz H H'){xs:List V}{ds:List PyData}(h:DVs H xs ds):DVs H' xs ds:=(au e).2 _ _ h
theorem DVs.length {H:Hp}{xs:List V}{ds:List PyData}(h:DVs H xs ds):xs.length=ds.length:=h.ind (motive:=λxs ds _=>xs.length=ds.length) rfl λ_ _ z=>congrArg (·+1) z
def tyD :PyData->String
 |.none=>"NoneType"
 |.bool _=>"bool"
 |.int _=>"int"
 |.str _=>"str"
 |.list _=>"list"
 |.tuple _=>"tuple"
 |.dict _=>"dict"
theorem DV.ty {K:PySem.W.Frag}{H:Hp}{x:V}{d:PyData}(h:DV H x d):vV K H x (.type (tyD d)):=by
 cases h with
 |non=>exact .non
 |bl b=>exact .bl b
 |int i=>exact .int i
 |str x=>exact .str x
 |lst e _=>exact .lst e
 |tup e _=>exact .tup e
def isInt :PyData->Bool
 |.int _=>true
 |.bool _=>true
 |_=>false
def isBool :PyData->Bool
 |.bool _=>true
 |_=>false
def isStr :PyData->Bool
 |.str _=>true
 |_=>false
def isList :PyData->Bool
 |.list _=>true
 |_=>false
def zn4 :PyData->Bool
 |.tuple _=>true
 |_=>false
def zl7 (T:String)(d:PyData):Option Bool:=
 if T="int" then some (isInt d)else if T="bool" then some (isBool d)else if T="str" then some (isStr d)else if T="list" then some (isList d)else if T="tuple" then some (zn4 d)else none
def zF2 (t T:String):Option Bool:=if(Value.type t == Value.type T)=true then some true else if PySem.W.kitMeta T=true then(fastBuiltinMro t).map (·.contains (Value.type T))else none
theorem ae (K:PySem.W.Frag)(t T:String):PySem.W.kitOne K (.type t) (.type T)=zF2 t T:=rfl
theorem cD :(["NoneType","bool","int","str","list","tuple"].all λt=>["int","bool","str","list","tuple"].all λT=>
  zF2 t T == some (if T="int" then t == "int"||t == "bool" else t == T))=true:=by decide +kernel
theorem zL8 (K:PySem.W.Frag){H:Hp}{x:V}{d:PyData}(h:DV H x d){T:String}{b:Bool}(e:zl7 T d=some b):PySem.W.kitOne K (.type (tyD d)) (.type T)=some b:=by
 rw[ae];have key:∀t∈["NoneType","bool","int","str","list","tuple"],∀T∈["int","bool","str","list","tuple"],zF2 t T=some (if T="int" then t == "int"||t == "bool" else t == T):=λt f T c=>
  eq_of_beq (z67.mp (z67.mp cD t f) T c)
 have hd:tyD d∈["NoneType","bool","int","str","list","tuple"]:=by cases h<;>simp[tyD]
 unfold zl7 at e;split at e
 ·rename_i a;subst a;rw[key _ hd "int" (by decide)];cases e;cases h<;>rfl
 ·split at e
  ·rename_i a;subst a;rw[key _ hd "bool" (by decide)];cases e;cases h<;>rfl
  ·split at e
   ·rename_i a;subst a;rw[key _ hd "str" (by decide)];cases e;cases h<;>rfl
   ·split at e
    ·rename_i a;subst a;rw[key _ hd "list" (by decide)];cases e;cases h<;>rfl
    ·split at e
     ·rename_i a;subst a;rw[key _ hd "tuple" (by decide)];cases e;cases h<;>rfl
     ·cases e
section
variable {X:Cx}
def zM1 :R2:=λx y H Q=>∃d e,DV H x d/\DV H y e/\SeqAt.shaped d=true/\SeqAt.shaped e=true/\Q (.bl (PyData.eqv d e)) H
def zO4 :R2:=λx y H Q=>∃d e,DV H x d/\DV H y e/\SeqAt.shaped d=true/\SeqAt.shaped e=true/\Q (.bl (!PyData.eqv d e)) H
theorem zB0 (f:X.A.units+64<cLine):OpR X (compareOp .Eq) zM1:=by
 intro pins s σ H x y v u Q I i b h;obtain⟨d,e,hd,he,c,j,q⟩:=h;obtain⟨as,a⟩:=hd.reads I i;obtain⟨bs,g⟩:=he.reads I b;exact SeqAt.compareEq_shaped a g c j f ⟨.bl _,H,I,rfl,q⟩
theorem zD0 (f:X.A.units+64<cLine):OpR X (compareOp .NotEq) zO4:=by
 intro pins s σ H x y v u Q I i b h;obtain⟨d,e,hd,he,c,j,q⟩:=h;obtain⟨as,a⟩:=hd.reads I i;obtain⟨bs,g⟩:=he.reads I b;exact SeqAt.compareNe_shaped a g c j f ⟨.bl _,H,I,rfl,q⟩
theorem bx :yE X (.builtin "isinstance") (λxs H Q=>∃x T t b,xs=[x,.ty T]/\vV X.K H x t/\PySem.W.kitOne X.K t (.type T)=some b/\Q (.bl b) H):=by
 intro pins s σ H xs us Q I r h;obtain⟨x,T,t,b,rfl,ty,e,q⟩:=h;obtain⟨u,v,rfl,c,a⟩:=Vals.two r;cases(show v=Value.type T from a);exact fV I c ty e λtk=>⟨.bl b,H,I.tok tk,rfl,q⟩
theorem fB :yE X (.builtin "isinstance") (λxs H Q=>∃x T d b,xs=[x,.ty T]/\DV H x d/\zl7 T d=some b/\Q (.bl b) H):=by
 intro pins s σ H xs us Q I r h;obtain⟨x,T,d,b,e,hd,a,q⟩:=h;exact bx pins s σ H xs us Q I r ⟨x,T,_,b,e,hd.ty,zL8 X.K hd a,q⟩
def zN1 (i j:Int):Prop:=0<j/\j.natAbs.log2<9000
theorem rD :OpR X (binaryOp .FloorDiv) (rI zN1 λi j=>.int (i / j)):=opI λi j _ _ _ _ _ a q=>by
 have h1:(0:Int)<j:=a.1;refine floordiv_int (ye8 h1) ?_ (.inl (PyProof.noPylong_of_log2 a.2));rw[Int.fdiv_eq_ediv_of_nonneg _ (ye9 h1)];exact q
abbrev big :Int:=115792089237316195423570985008687907853269984665640564039457584007913129639936
theorem log2_small {j:Int}(h0:0<j)(h:j<big):j.natAbs.log2<9000:=by
 have hn:j.natAbs≠0:=by lia
 have h2:j.natAbs<2 ^ 256:=by
  have e:(2:Nat) ^ 256=115792089237316195423570985008687907853269984665640564039457584007913129639936:=by decide +kernel
  rw[e];unfold big at h
  lia
 have h3:j.natAbs.log2<256:=(Nat.log2_lt hn).mpr h2
 lia
theorem nQ :yE X (.type "range") (λxs H Q=>∃i j:Int,xs=[.int i,.int j]/\∀p,H p=none->Q (.ref p) (upd H p (.rng i j))):=by
 intro pins s σ H xs us Q I r h;obtain⟨i,j,rfl,q⟩:=h;obtain⟨u,v,rfl,⟨t,rfl⟩,⟨t',rfl⟩⟩:=Vals.two r;refine call_range_2 ⟨.ref s.heap.objs.size,_,I.laid (o:=.rng i j) (λb u e=>zX2 _ e) (zX7 _) ⟨t,t',s.toks,zY5 _ rfl⟩,rfl,q _ (I.hok.fresh (zX7 _))⟩
def zo (lo:Int)(n:Nat):List Int:=(List.range n).map λi=>lo+(i:Nat)
theorem zd (lo:Int)(n:Nat):(zo lo n).length=n:=by simp[zo]
theorem zU {lo:Int}{n i:Nat}(h:i<n):(zo lo n)[i]?=some (lo+(i:Nat)):=by simp[zo,h]
theorem rZ {lo:Int}{n:Nat}{acc:Array Value}(h:ItemsOf (λi v=>∃t,v=.int (lo+i*1) t) acc n):Vals ((zo lo n).map V.int) acc.toList:=by
 obtain⟨h1,h2⟩:=h;have key:∀(xs:List V) (us:List Value),xs.length=us.length->(∀(i:Nat) (x:V) (u:Value),xs[i]?=some x->us[i]?=some u->RelV x u)->Vals xs us:=by
  intro xs
  induction xs with
  |nil=>intro us a _;cases us with|nil=>exact .nil|cons _ _=>simp at a
  |cons x xs f=>
   intro us a hr;cases us with
   |nil=>simp at a
   |cons u us=>exact .cons (hr 0 x u rfl rfl) (f us (by simpa using a) λi d e e1 b=>hr (i+1) d e (by simpa using e1) (by simpa using b))
 refine key _ _ ?_ λi x u e1 b=>?_
 ·rw[zX0,zd];simp[h1]
 ·rw[zY3]at e1;have hi:i<n:=by
   have:=(zX5.mp b).1;simp[h1]at this;exact this
  rw[zU hi]at e1;have c:V.int (lo+(i:Nat))=x:=z00 e1;subst c;obtain⟨t,g⟩:=h2 i u (by simpa using b);refine⟨t,?_⟩;rw[g,Int.mul_one]
theorem qf (m:X.calm=true):yE X (.type "list") (λxs H Q=>∃(p:Addr) (lo hi:Int),xs=[.ref p]/\H p=some (.rng lo hi)/\(-(2 ^ 62)<=lo/\lo<2 ^ 62/\-(2 ^ 62)<=hi/\hi<2 ^ 62)/\(hi-lo).toNat<=sizeLine/\(hi-lo).toNat<=2 ^ 24/\
  ∀l,H l=none->Q (.ref l) (upd H l (.lst ((zo lo (hi-lo).toNat).map V.int)))):=by
 intro pins s σ H xs us Q I r h;obtain⟨p,lo,hi,rfl,f,⟨c,v,j,d⟩,hz,b,q⟩:=h;obtain⟨u,rfl,k⟩:=Vals.one r;cases(show u=Value.ref p from k);obtain⟨t,t',i,e⟩:=(show zE X.prog X.w H s.heap p (.rng lo hi)from I.hok p _ f);refine call_list_range (I.ok.hd m) e (small_one c v j d) (n:=(hi-lo).toNat) (by rw[rangeSize_one];split<;>lia) b λh' tk a c' hk g hit=>?_;refine⟨.ref s.heap.objs.size,_,I.laid (o:=.lst ((zo lo (hi-lo).toNat).map V.int)) (t':=tk) hk (zX7 _) ⟨by rw[zX0,zd];exact hz,a.toList,c',rZ hit,by simpa using g⟩,rfl,q _ (I.hok.fresh (zX7 _))⟩
theorem oW {bs:List Bool}:∀{us:List Value},Vals (bs.map V.bl) us->LSm.BoolsAre us bs:=by
 induction bs with
 |nil=>intro us h;cases h;exact .nil
 |cons b bs a=>
  intro us h;cases h with
  |cons r c=>
   cases(show _=Value.bool b from r);exact .cons b (a c)
end
def ze2 (X:Cx)(body:List Stmt):TS:=λD σ H=>∃t,PSs X body t/\t D σ H
theorem zV {X:Cx}{body:List Stmt}:PSs X body (ze2 X body):=λpins s σ H D I ⟨t,p,q⟩=>p pins s σ H D I q
theorem xm {X:Cx}{st:Stmt}{rest:List Stmt}{D:Ends}{σ:St}{H:Hp}(M:St->Hp->Prop)(h1:∃t,PS X st t/\t {D with nx:=M} σ H)(h2:∀a H',M a H'->∃t,PSs X rest t/\t D a H'):
  ∃t,PSs X (st::rest) t/\t D σ H:=by
 obtain⟨t1,p1,f⟩:=h1;refine⟨λc a H'=>c=D/\a=σ/\H'=H,?_,rfl,rfl,rfl⟩;intro pins s a H' c I h;obtain⟨e1,j,k⟩:=h;subst e1 j k;have step:PSs X (st::rest) (zQ0 t1 λd σ2 b=>d=c/\M σ2 b):=zI p1 λpins s σ2 b d g ⟨e,m⟩=>by
  subst e;obtain⟨l,p2,i⟩:=h2 σ2 b m;exact p2 pins s σ2 b _ g i
 refine step pins s _ _ _ I ?_;show t1 {c with nx:=λσ2 b=>c=c/\M σ2 b} _ _;have e:(λ(σ2:St) (b:Hp)=>c=c/\M σ2 b)=M:=by
  funext σ2 b
  exact propext ⟨λz=>z.2,λz=>⟨rfl,z⟩⟩
 rw[e];exact f
theorem fM {K:PySem.W.Frag}{a acc:Addr}{xs:List V}{g:TG}{tt:TT}{j:TE}{Q:VK}{f:St}{H0:Hp}(Pv:Nat->List V->St->Hp->Prop)(h0:Pv 0 [] f H0)(n:∀i ys b H,i<=xs.length->Pv i ys b H->SqL K H a xs)
  (t:∀i x ys b H,xs[i]?=some x->Pv i ys b H->g x b H λτ2 s=>tt τ2 s λc h=>
   if c=true then j τ2 h λy k=>k acc=some (.lst ys)/\ys.length<sizeLine/\Pv (i+1) (ys++[y]) τ2 (upd k acc (.lst (ys++[y])))else Pv (i+1) ys τ2 h)
  (hd:∀ys b H,Pv xs.length ys b H->Q (.ref acc) H):
  qZ (Itl K a) acc g tt j f H0 Q:=by
 refine⟨λi m ys b H=>m=xs.length-i/\i<=xs.length/\Pv i ys b H,⟨xs.length,by simp,zY9 _,h0⟩,?_⟩;rintro i m ys b H ⟨rfl,hi,p⟩;have q:=n i ys b H hi p;by_cases d:i<xs.length
 ·refine .inr ⟨⟨xs,xs[i],q,by simp[d]⟩,Pv (i+1),λo l H' r=>⟨xs.length-(i+1),by omega,rfl,d,r⟩,λx H' y=>?_⟩;obtain⟨e,y⟩:=y;subst e;exact t i x ys b _ (y xs q) p
 ·have e:i=xs.length:=by omega
  subst e;exact .inl ⟨⟨xs,q,zX7 _⟩,hd ys b H p⟩
theorem at0 {α:Type}{x:α}{xs:List α}:atI (x::xs) 0=some x:=zW (j:=0) rfl
theorem ix0 {α:Type}{x:α}{xs:List α}:ixN (x::xs).length 0=some 0:=by
 unfold ixN;rw[if_pos (z77 _),if_pos (by rw[zY7];omega)];rfl
theorem zS5 {α:Type}{x:α}{xs:List α}:seqIndex? 0 (x::xs).length=some 0:=(pb ix0).1
theorem zd2 (ns:List Int)(lo hi:Option Int):∃ms:List Int,oS (ns.map V.int) lo hi=ms.map V.int/\ms.length<=ns.length:=by
 refine⟨(ns.drop (HT.sIx (ns.map V.int).length 0 lo)).take (HT.sIx (ns.map V.int).length (ns.map V.int).length hi-HT.sIx (ns.map V.int).length 0 lo),?_,?_⟩
 ·unfold oS;rw[List.map_take,List.map_drop]
 ·rw[z35,ya9];omega
structure yz (H:Hp)(t b c:Addr):Prop where
 ex:∃(n:Int) (bs cs:List Int),b≠c/\H t=some (.lst [.ref b,.ref c,.int n])/\H b=some (.lst (bs.map V.int))/\H c=some (.lst (cs.map V.int))/\bs.length<=63/\cs.length<=63
theorem kZ {b c:Addr}{n:Int}(bs:List Int):HO.lst [.ref b,.ref c,.int n]≠HO.lst (bs.map V.int):=by
 intro z;injection z with z;cases bs with
 |nil=>cases z
 |cons x r=>cases z
def pK (t b:Addr)(H H':Hp):Prop:=∀a,a≠t->a≠b->H' a=H a
theorem pK.trans {t b:Addr}{H H1 c:Hp}(h:pK t b H H1)(k:pK t b H1 c):pK t b H c:=λa h1 h2=>(k a h1 h2).trans (h a h1 h2)
def lQ (K:PySem.W.Frag):Sp:=λvs H Q _=>∃(a:Addr) (ns:List Int),vs=[.ref a]/\SqL K H a (ns.map V.int)/\ns.length<=63/\
 ∀(t b c:Addr) (H':Hp),yz H' t b c->H t=none->H b=none->H c=none->zz H H'->Q (.ref t) H'
def dI :Sp:=λvs H Q _=>∃(t b c:Addr) (many:Int),vs=[.ref t,.int many]/\yz H t b c/\0<many/\many<big/\
 ∀(v:Int) (H':Hp),0<=v->v<many->yz H' t b c->pK t b H H'->Q (.int v) H'
theorem yz.free {H:Hp}{t b c l:Addr}(T:yz H t b c)(h:H l=none):l≠t/\l≠b/\l≠c:=by
 obtain⟨n,bs,cs,n1,e1,a,d,l1,l2⟩:=T.ex;exact⟨(zj e1 h).symm,(zj a h).symm,(zj d h).symm⟩
theorem yz.off {H H':Hp}{t b c:Addr}(T:yz H t b c)(h:∀a,a=t\/a=b\/a=c->H' a=H a):yz H' t b c:=by
 obtain⟨n,bs,cs,n1,e1,d,e,l1,l2⟩:=T.ex;exact⟨n,bs,cs,n1,by rw[h t (.inl rfl)];exact e1,by rw[h b (.inr (.inl rfl))];exact d,by rw[h c (.inr (.inr rfl))];exact e,l1,l2⟩
theorem zc7 {H:Hp}{t b c l:Addr}{o:HO}(T:yz H t b c)(h:l≠t/\l≠b/\l≠c):yz (upd H l o) t b c:=
 T.off λa ha=>zb (ha.elim (λe=>e▸h.1.symm) λha=>ha.elim (λe=>e▸h.2.1.symm) λe=>e▸h.2.2.symm)
theorem fh {H H':Hp}{t b c:Addr}(T:yz H t b c)(s:zz H H'):yz H' t b c:=by
 obtain⟨n,bs,cs,n1,e1,a,d,l1,l2⟩:=T.ex;exact⟨n,bs,cs,n1,s _ _ e1,s _ _ a,s _ _ d,l1,l2⟩
theorem ye {H:Hp}{p:Addr}{o:HO}(h:H p=none):zz H (upd H p o):=λb u e=>by rw[zb (zj e h)];exact e
theorem shaped_ints (ns:List Int):SeqAt.shaped (.list (ns.map PyData.int))=true/\SeqAt.shaped (.tuple (ns.map PyData.int))=true:=by
 have h1:PyData.canLayAll0 (ns.map PyData.int)=true:=by
  induction ns with
  |nil=>rfl
  |cons n r a=>simp only[zZ2,PyData.canLayAll0,PyData.canLay0,a,Bool.and_self]
 have h2:PyData.depthAll (ns.map PyData.int)=0:=by
  clear h1
  induction ns with
  |nil=>rfl
  |cons n r a=>simp only[zZ2,PyData.depthAll,PyData.depth,a,Nat.max_self]
 constructor<;>simp[SeqAt.shaped,PyData.canLay0,PyData.depth,h1,h2]
def yn :Addr:=(487:Nat)
def xF :Str:="cheapest_first.<locals>.<lambda>"
def sS (x:Addr):Prop:=x=yn
def uQ (c:Addr):HO:=.ext λh=>h.CodeRec (.ref c) xF
structure TabAt (H:Hp):Prop where
 ex:∃ps:Array Value,H yn=some (.tbl ps)/\TriplesOk ps.toList/\∀pos cv,codeAmong pos ps.toList=some cv->∃c,cv=.ref c/\H c=some (uQ c)
theorem sD {H H':Hp}(T:TabAt H)(h:∀a o,(∀xs,o≠.lst xs)->H a=some o->H' a=some o):TabAt H':=by
 obtain⟨ps,e1,d,f⟩:=T.ex;refine⟨ps,h _ _ (λxs z=>nomatch z) e1,d,λpos cv e=>?_⟩;obtain⟨c,rfl,b⟩:=f pos cv e;exact⟨c,rfl,h _ _ (λxs z=>nomatch z) b⟩
def Plain (H:Hp)(l:Addr):Prop:=∀o,H l=some o->o≠uQ l/\∀ps,o≠.tbl ps
theorem zh2 {H:Hp}{l:Addr}{o:HO}(T:TabAt H)(h:Plain H l):TabAt (upd H l o):=by
 obtain⟨ps,e1,b,d⟩:=T.ex;have n1:yn≠l:=λz=>by rw[z]at e1;exact(h _ e1).2 ps rfl
 refine⟨ps,by rw[zb n1];exact e1,b,λpos cv e=>?_⟩;obtain⟨c,rfl,a⟩:=d pos cv e;have f:c≠l:=λz=>by subst z;exact(h _ a).1 rfl
 exact⟨c,rfl,by rw[zb f];exact a⟩
theorem gr {ps:Array Value}:∀ts,HO.tbl ps≠HO.tup ts:=λ_ z=>by cases z
theorem qT {H:Hp}{x:Addr}(T:TabAt H)(h:sS x):∃o,H x=some o/\(∀ts,o≠.tup ts)/\∀xs,o≠.lst xs:=by
 obtain⟨ps,e1,_⟩:=T.ex;exact⟨_,by rw[h];exact e1,gr,λ_ z=>by cases z⟩
theorem qH {H:Hp}{l:Addr}{xs:List V}(h:H l=some (.lst xs)):Plain H l:=λo e=>by
 rw[h]at e;cases e;exact⟨(λz=>by cases z),λps z=>by cases z⟩
theorem rM {H:Hp}{l:Addr}{xs:List (Key×V)}(h:H l=some (.dK xs)):Plain H l:=λo e=>by
 rw[h]at e;cases e;exact⟨(λz=>by cases z),λps z=>by cases z⟩
theorem iM {H:Hp}{l C dx:Addr}{fs:List (Str×V)}(h:H l=some (.ins C dx fs)):Plain H l:=λo e=>by
 rw[h]at e;cases e;exact⟨(λz=>by cases z),λps z=>by cases z⟩
theorem ny {H:Hp}{l:Addr}(T:TabAt H)(h:H l=none):¬sS l:=λz=>by
 obtain⟨o,e,_⟩:=qT T z;rw[h]at e;cases e
theorem zn5 {H H':Hp}{t b:Addr}{xs ys:List V}(T:TabAt H)(c:H t=some (.lst xs))(hb:H b=some (.lst ys))(off:pK t b H H'):TabAt H':=sD T λa o no e=>by
 have n1:a≠t:=λz=>by rw[z,c]at e;cases e;exact no _ rfl
 have d:a≠b:=λz=>by rw[z,hb]at e;cases e;exact no _ rfl
 rw[off a n1 d];exact e
theorem aO {H H':Hp}(T:TabAt H)(h:zz H H'):TabAt H':=sD T λa o _ e=>h a o e
def ml (K:PySem.W.Frag):Sp:=λvs H Q _=>∃(a:Addr) (ns:List Int),vs=[.ref a]/\SqL K H a (ns.map V.int)/\ns.length<=63/\TabAt H/\∀H',Q (.bl true) H'
structure zG2 (mg:Str->Option Value):Prop where
 abs:mg "abs"=none
 list:mg "list"=none
 len:mg "len"=none
structure zZ (n:Nat)(d:PyData):Prop where
 shw:d.showable=true
 nod:d.hasDict=false
 dep:d.depth<=8
 len:d.shown.length<=n
 lay:d.canLay0=true
theorem zZ.mono {m n:Nat}{d:PyData}(h:zZ m d)(e:m<=n):zZ n d:=⟨h.shw,h.nod,h.dep,zY1 h.len e,h.lay⟩
theorem tj :∀(ts:List Str) (k:Nat) (acc:Str),(textFrom k acc ts).length<=acc.length+piled ts
 |[],_,acc=>by rw[piled_nil];exact zX7 _
 |t::r,k,acc=>by
  have h:=tj r (k+1) (acc++(if k > 0 then ", " else "":String)++t);rw[piled_cons];have b:(Str.ofString (if k > 0 then ", " else "":String)).length<=2:=by
   split
   ·exact zZ3 rfl
   ·exact zY9 _
  have c:=yb5 (acc++Str.ofString (if k > 0 then ", " else "":String)) t;have a:=yb5 acc (Str.ofString (if k > 0 then ", " else "":String));show(textFrom (k+1) (acc++Str.ofString (if k > 0 then ", " else "":String)++t) r).length<=_;have h':(textFrom (k+1) (acc++Str.ofString (if k > 0 then ", " else "":String)++t) r).length<=(acc++Str.ofString (if k > 0 then ", " else "":String)++t).length+piled r:=h
  lia
theorem nq (ts:List Str):(listText ts).length<=piled ts+2:=by
 unfold listText;rw[yb5];have h:=tj ts 0 (Str.ofString "[");have e1:(Str.ofString "[").length=1:=rfl;have a:(Str.ofString "]").length=1:=rfl;show(textFrom 0 (Str.ofString "[") ts).length+(Str.ofString "]").length<=_
 lia
theorem oj (ts:List Str):(tupleText ts).length<=piled ts+3:=by
 cases ts with
 |nil=>decide +kernel
 |cons t r=>
  have h:=join_length_add (t::r) (by simp);unfold tupleText;rw[yb5,yb5];have e1:(Str.ofString "(").length=1:=rfl;have a:(Str.ofString (if(t::r).length == 1 then ",)" else ")":String)).length<=2:=by
   split
   ·exact zZ3 rfl
   ·exact z30 (show 1<2 by decide)
  show(Str.ofString "(").length+(Str.join ", " (t::r)).length+(Str.ofString (if(t::r).length == 1 then ",)" else ")":String)).length<=_
  lia
theorem wN {n:Nat}:∀(ds:List PyData),(∀d∈ds,zZ n d)->piled (PyData.shownAll ds)<=ds.length*(n+2)
 |[],_=>zY9 _
 |d::r,h=>by
  have h1:=(h d zX9).len;have h2:=wN r λe he=>h e (zX8 _ he);show piled (d.shown::PyData.shownAll r)<=_;rw[piled_cons,zY7,Nat.succ_mul]
  lia
structure yi (n:Nat)(ds:List PyData):Prop where
 all:∀d∈ds,zZ n d
 dep:∀d∈ds,d.depth<=7
theorem yi.parts {n:Nat}:∀{ds:List PyData},yi n ds->PyData.showableAll ds=true/\PyData.hasDictAll ds=false/\PyData.depthAll ds<=7/\PyData.canLayAll0 ds=true
 |[],_=>⟨rfl,rfl,zY9 _,rfl⟩
 |d::r,h=>by
  obtain⟨a,b,c,e⟩:=yi.parts (ds:=r) ⟨λx f=>h.all x (zX8 _ f),λx f=>h.dep x (zX8 _ f)⟩;have hd:=h.all d zX9;have g:=h.dep d zX9;refine⟨?_,?_,?_,?_⟩
  ·simp only[PyData.showableAll,hd.shw,a,Bool.and_self]
  ·simp only[PyData.hasDictAll,hd.nod,b,Bool.or_self]
  ·simp only[PyData.depthAll];exact zP7 g c
  ·simp only[PyData.canLayAll0,hd.lay,e,Bool.and_self]
theorem zZ.list {n m:Nat}{ds:List PyData}(h:yi n ds)(e:ds.length*(n+2)+2<=m):zZ m (.list ds):=by
 obtain⟨a,b,c,f⟩:=h.parts;refine⟨by simp only[PyData.showable,a],by simp only[PyData.hasDict,b],by simp only[PyData.depth];exact zs2 c,?_,by simp only[PyData.canLay0,f]⟩;show(listText (PyData.shownAll ds)).length<=m;have h1:=nq (PyData.shownAll ds);have h2:=wN ds h.all;exact zx2 e h1 h2
theorem zZ.tuple {n m:Nat}{ds:List PyData}(h:yi n ds)(e:ds.length*(n+2)+3<=m):zZ m (.tuple ds):=by
 obtain⟨a,b,c,f⟩:=h.parts;refine⟨by simp only[PyData.showable,a],by simp only[PyData.hasDict,b],by simp only[PyData.depth];exact zs2 c,?_,by simp only[PyData.canLay0,f]⟩;show(tupleText (PyData.shownAll ds)).length<=m;have h1:=oj (PyData.shownAll ds);have h2:=wN ds h.all;exact zx2 e h1 h2
theorem zb1 {i:Int}(h0:-big<i)(h1:i<big):i.natAbs.log2<1920:=by
 by_cases hn:i.natAbs=0
 ·rw[hn];decide
 ·have h2:i.natAbs<2 ^ 256:=by
   have e:(2:Nat) ^ 256=115792089237316195423570985008687907853269984665640564039457584007913129639936:=by decide +kernel
   rw[e];unfold big at h0 h1
   lia
  have h3:i.natAbs.log2<256:=(Nat.log2_lt hn).mpr h2
  lia
theorem zZ.int {i:Int}(h0:-big<i)(h1:i<big):zZ 2000 (.int i):=by
 have a:=zb1 h0 h1;refine⟨by simp only[PyData.showable,z37];exact a,rfl,zY9 _,?_,rfl⟩;have:=int_text_len_1921 a;show(Str.ofString (toString i)).length<=2000
 lia
theorem zZ.none :zZ 2000 .none:=⟨rfl,rfl,zY9 _,by decide +kernel,rfl⟩
theorem zZ.bool (b:Bool):zZ 2000 (.bool b):=⟨rfl,rfl,zY9 _,by cases b<;>decide +kernel,rfl⟩
theorem zZ.shaped {n:Nat}{d:PyData}(h:zZ n d):SeqAt.shaped d=true:=by
 unfold SeqAt.shaped;rw[h.lay,yb6,z37];have:=h.dep
 lia
section
variable {X:Cx}
theorem fc (hg:X.A.guards=some [])(k:X.A.units+64<cLine):yE X (.builtin "repr") (λxs H Q=>∃x d,xs=[x]/\DV H x d/\zZ sizeLine d/\Q (.str d.shown) H):=by
 intro pins s σ H xs us Q I r h;obtain⟨x,d,rfl,hd,N,q⟩:=h;obtain⟨u,rfl,f⟩:=Vals.one r;have c:∀{a:Addr},u=Value.ref a->wpAny (model X.prog X.w) X.A (call (.builtin "repr") [u]) (EP X pins σ Q) X.xe s:=λ{a} e=>by
  obtain⟨as,g⟩:=hd.reads I f;subst e;refine repr_of_reads' g N.shw (PyData.noDict_hsm N.nod) hg (by have:=N.dep;lia) (λ_ _ e=>e) (λh' t tk hk=>?_) N.len;exact⟨.str d.shown,H,I.kept hk,⟨t,rfl⟩,q⟩
 cases hd with
 |non=>cases(show u=Value.none from f);exact P.repr_of_none ⟨.str _,H,I.tok _,⟨_,rfl⟩,q⟩
 |bl b=>cases(show u=Value.bool b from f);exact P.repr_of_bool ⟨.str _,H,I.tok _,⟨_,rfl⟩,q⟩
 |int i=>
  obtain⟨t,rfl⟩:=(show ∃t,u=Value.int i t from f);have j:i.natAbs.log2<1920:=by
   have:=N.shw;simpa only[PyData.showable,z37]using this
  exact P.repr_of_int j ⟨.str _,H,I.tok _,⟨_,rfl⟩,q⟩
 |str y=>
  obtain⟨t,rfl⟩:=(show ∃t,u=Value.str y t from f);exact P.repr_of_str ⟨.str _,H,I.tok _,⟨_,rfl⟩,q⟩ N.len
 |lst e _=>exact c f
 |tup e _=>exact c f
theorem qB {s:Shared}{h':Heap}{o:Obj}{q:Addr}(hq:q=s.heap.objs.size)(hk:∀b x,b∉[q]->(s.heap.push o).get? b=some x->h'.get? b=some x):∀b x,s.heap.get? b=some x->h'.get? b=some x:=λb x e=>by
 refine hk b x (λhm=>?_) (zX2 _ e);have a:b=q:=by simpa using hm
 rw[a,hq]at e;exact z26 _ (zY4 e)
theorem gf (n:X.calm=true):yE X (.builtin "all") (λxs H Q=>∃(p:Addr) (bs:List Bool),xs=[.ref p]/\H p=some (.lst (bs.map V.bl))/\Q (.bl (bs.all id)) H):=by
 intro pins s σ H xs us Q I r h;obtain⟨p,bs,rfl,e,q⟩:=h;obtain⟨u,rfl,m⟩:=Vals.one r;cases(show u=Value.ref p from m);obtain⟨a,j,pl,hz⟩:=I.list (SqL.of e);have g:=oW j;have f:=pl.isList;have c:p<s.heap.objs.size:=I.hok.lt e;refine call_all_walk (z60 f ⟨s.heap.objs.size,[s.heap.objs.size,p],[s.heap.objs.size],a.toArray.size,_,_,λi=>(bs[i]?).getD true,rfl,
  Walks.list (A:=X.A.in1) (I.ok.hd n) _ p (zZ6 c) a.toArray,⟨⟨_,zY5 _ rfl,rfl,rfl⟩,f.push _⟩,λi v s' t w o d=>?_,λh' tk hk=>?_⟩)
 ·obtain⟨b,l,rfl⟩:=g.get i v (by simpa using o);dsimp only at d;rw[l]at d;exact z28 d
 ·have k:((List.range a.toArray.size).all λi=>(bs[i]?).getD true)=bs.all id:=by
   rw[zZ0,g.length];exact LSm.range_all bs
  rw[k];exact⟨.bl _,H,I.kept (t':=tk) (qB rfl hk),rfl,q⟩
theorem fY (n:X.calm=true):yE X (.builtin "any") (λxs H Q=>∃(p:Addr) (bs:List Bool),xs=[.ref p]/\H p=some (.lst (bs.map V.bl))/\Q (.bl (bs.any id)) H):=by
 intro pins s σ H xs us Q I r h;obtain⟨p,bs,rfl,e,q⟩:=h;obtain⟨u,rfl,m⟩:=Vals.one r;cases(show u=Value.ref p from m);obtain⟨a,j,pl,hz⟩:=I.list (SqL.of e);have g:=oW j;have f:=pl.isList;have c:p<s.heap.objs.size:=I.hok.lt e;refine call_any_walk (z60 f ⟨s.heap.objs.size,[s.heap.objs.size,p],[s.heap.objs.size],a.toArray.size,_,_,λi=>(bs[i]?).getD false,rfl,
  Walks.list (A:=X.A.in1) (I.ok.hd n) _ p (zZ6 c) a.toArray,⟨⟨_,zY5 _ rfl,rfl,rfl⟩,f.push _⟩,λi v s' t w o d=>?_,λh' tk hk=>?_⟩)
 ·obtain⟨b,l,rfl⟩:=g.get i v (by simpa using o);dsimp only at d;rw[l]at d;exact z28 d
 ·have k:((List.range a.toArray.size).any λi=>(bs[i]?).getD false)=bs.any id:=by
   rw[zZ0,g.length];exact LSm.range_any bs
  rw[k];exact⟨.bl _,H,I.kept (t':=tk) (qB rfl hk),rfl,q⟩
end
def zW3 :PyData->Bool
 |.int _=>true
 |_=>false
def yM (lo hi:Int):PyData->Bool
 |.int i=>decide (lo<=i)&&decide (i<=hi)
 |_=>false
def pairD :PyData->Bool
 |.tuple ds=>decide ((ds.length:Int)=2)
 |_=>false
abbrev hG :PyData->Bool:=yM 0 1000000
def zW9 :PyData->Bool
 |.tuple [a,b]=>hG a&&hG b
 |_=>false
def zD3 :PyData->Option Int
 |.tuple [.int a,.int b]=>if hG (.int a)&&hG (.int b)then some (b-a)else none
 |_=>none
def wV (d:PyData):Bool:=match zD3 d with
 |some k=>decide (0<=k)
 |none=>false
noncomputable def sub (p:Addr->Prop)(H:Hp):Hp:=λa=>open Classical in if p a then H a else none
theorem zc {p:Addr->Prop}{H:Hp}{a:Addr}{o:HO}(h:sub p H a=some o):p a/\H a=some o:=by
 unfold sub at h;split at h
 ·rename_i b;exact⟨b,h⟩
 ·cases h
theorem zA {p:Addr->Prop}{H:Hp}{a:Addr}{o:HO}(b:p a)(h:H a=some o):sub p H a=some o:=by
 unfold sub;rw[if_pos b];exact h
theorem zq {p q:Addr->Prop}{H H':Hp}(h:∀a o,p a->H a=some o->q a/\H' a=some o):zz (sub p H) (sub q H'):=λa o e=>by
 obtain⟨c,he⟩:=zc e;obtain⟨hq,b⟩:=h a o c he;exact zA hq b
theorem xy {p:Addr->Prop}{H:Hp}:zz (sub p H) H:=λ_ _ e=>(zc e).2
theorem yi.snoc {n:Nat}{ds:List PyData}{d:PyData}(h:yi n ds)(hd:zZ n d)(a:d.depth<=7):yi n (ds++[d]):=
 ⟨λe he=>(z31.mp he).elim (h.all e) λz=>by rw[zY0.mp z];exact hd,λe he=>(z31.mp he).elim (h.dep e) λz=>by rw[zY0.mp z];exact a⟩
theorem yi.nil {n:Nat}:yi n []:=⟨λd hd=>by simp at hd,λd hd=>by simp at hd⟩
theorem yi.two {n:Nat}{d e:PyData}(hd:zZ n d)(he:zZ n e)(h1:d.depth<=7)(h2:e.depth<=7):yi n [d,e]:=(yi.nil.snoc hd h1).snoc he h2
section
variable {X:Cx}{e:Expr}{es:List Expr}
def uo (X:Cx)(e:Expr):TE:=λσ H Q=>∃t,PE X e t/\t σ H Q
theorem zf :PE X e (uo X e):=λpins s σ H Q I a=>by obtain⟨t,p,q⟩:=a;exact p pins s σ H Q I q
def zR2 (X:Cx)(e:Expr):TT:=λσ H Q=>∃t,PT X e t/\t σ H Q
theorem xp :PT X e (zR2 X e):=λpins s σ H Q I a=>by obtain⟨t,p,q⟩:=a;exact p pins s σ H Q I q
def zH7 (X:Cx)(es:List Expr):TA:=λσ H Q=>∃t,PA X es t/\t σ H Q
theorem yA :PA X es (zH7 X es):=λpos pins s σ H Q I a=>by obtain⟨t,p,q⟩:=a;exact p pos pins s σ H Q I q
end
def xG :Key->PyData
 |.inl i=>.int i
 |.inr x=>.str x
def xcO (a C:Addr)(d:Option Addr):HO:=.ext λh=>∃o vs,h.get? a=some o/\o.cls=.ref C/\o.dict=d/\o.data=.fields vs
mutual
inductive AV (H:Hp):V->PyData->Prop where
 |non:AV H .non .none
 |bl (b:Bool):AV H (.bl b) (.bool b)
 |int (i:Int):AV H (.int i) (.int i)
 |str (x:Str):AV H (.str x) (.str x)
 |lst {a:Addr}{xs:List V}{ds:List PyData}:H a=some (.lst xs)->AVs H xs ds->AV H (.ref a) (.list ds)
 |tup {a:Addr}{xs:List V}{ds:List PyData}:H a=some (.tup xs)->AVs H xs ds->AV H (.ref a) (.tuple ds)
 |ins {a C dx:Addr}{fs:List (Str×V)}{ds:List (PyData×PyData)}:H a=some (.ins C dx fs)->AVf H fs ds->AV H (.ref a) (.dict ((.int (C:Nat),.none)::ds))
 |dk {a:Addr}{o:Obj}{kvs:List (Key×V)}{ds:List (PyData×PyData)}:H a=some (.frz o (.dK kvs))->AVk H kvs ds->AV H (.ref a) (.dict ((.none,.none)::ds))
 |dt {a:Addr}{o:Obj}{kvs:List (List Key×V)}{ds:List (PyData×PyData)}:H a=some (.frz o (.dT kvs))->AVt H kvs ds->AV H (.ref a) (.dict ((.none,.bool true)::ds))
 |xc {a C dx:Addr}{fs:List (Str×V)}{ds:List (PyData×PyData)}:H a=some (xcO a C (some dx))->H dx=some (.xd fs)->AVf H fs ds->AV H (.ref a) (.dict ((.int (C:Nat),.bool true)::ds))
 |xn {a C:Addr}:H a=some (xcO a C none)->AV H (.ref a) (.dict [(.int (C:Nat),.bool false)])
inductive AVs (H:Hp):List V->List PyData->Prop where
 |nil:AVs H [] []
 |cons {x:V}{xs:List V}{d:PyData}{ds:List PyData}:AV H x d->AVs H xs ds->AVs H (x::xs) (d::ds)
inductive AVf (H:Hp):List (Str×V)->List (PyData×PyData)->Prop where
 |nil:AVf H [] []
 |cons {f:Str}{x:V}{fs:List (Str×V)}{d:PyData}{ds:List (PyData×PyData)}:AV H x d->AVf H fs ds->AVf H ((f,x)::fs) ((.str f,d)::ds)
inductive AVk (H:Hp):List (Key×V)->List (PyData×PyData)->Prop where
 |nil:AVk H [] []
 |cons {k:Key}{x:V}{fs:List (Key×V)}{d:PyData}{ds:List (PyData×PyData)}:AV H x d->AVk H fs ds->AVk H ((k,x)::fs) ((xG k,d)::ds)
inductive AVt (H:Hp):List (List Key×V)->List (PyData×PyData)->Prop where
 |nil:AVt H [] []
 |cons {k:List Key}{x:V}{fs:List (List Key×V)}{d:PyData}{ds:List (PyData×PyData)}:AV H x d->AVt H fs ds->AVt H ((k,x)::fs) ((.tuple (k.map xG),d)::ds)
end
theorem iT {H:Hp}{m1:V->PyData->Prop}{m2:List V->List PyData->Prop}{m3:List (Str×V)->List (PyData×PyData)->Prop}{m4:List (Key×V)->List (PyData×PyData)->Prop}{m5:List (List Key×V)->List (PyData×PyData)->Prop}
  (I:m1 .non .none) (m:∀b,m1 (.bl b) (.bool b)) (l:∀i,m1 (.int i) (.int i)) (A:∀x,m1 (.str x) (.str x))
  (O:∀{a xs ds},H a=some (.lst xs)->m2 xs ds->m1 (.ref a) (.list ds)) (U:∀{a xs ds},H a=some (.tup xs)->m2 xs ds->m1 (.ref a) (.tuple ds))
  (R:∀{a C dx fs ds},H a=some (.ins C dx fs)->m3 fs ds->m1 (.ref a) (.dict ((.int (C:Nat),.none)::ds))) (T:∀{a o kvs ds},H a=some (.frz o (.dK kvs))->m4 kvs ds->m1 (.ref a) (.dict ((.none,.none)::ds)))
  (M:∀{a o kvs ds},H a=some (.frz o (.dT kvs))->m5 kvs ds->m1 (.ref a) (.dict ((.none,.bool true)::ds))) (L:∀{a C dx fs ds},H a=some (xcO a C (some dx))->H dx=some (.xd fs)->m3 fs ds->m1 (.ref a) (.dict ((.int (C:Nat),.bool true)::ds)))
  (e:∀{a C},H a=some (xcO a C none)->m1 (.ref a) (.dict [(.int (C:Nat),.bool false)]))
  (G:m2 [] []) (N:∀{x xs d ds},m1 x d->m2 xs ds->m2 (x::xs) (d::ds)) (K:m3 [] []) (P:∀{f x fs d ds},m1 x d->m3 fs ds->m3 ((f,x)::fs) ((.str f,d)::ds))
  (E:m4 [] []) (W:∀{k x fs d ds},m1 x d->m4 fs ds->m4 ((k,x)::fs) ((xG k,d)::ds)) (v:m5 [] []) (S:∀{k x fs d ds},m1 x d->m5 fs ds->m5 ((k,x)::fs) ((.tuple (k.map xG),d)::ds)):
  (∀x d,AV H x d->m1 x d)/\(∀x d,AVs H x d->m2 x d)/\(∀x d,AVf H x d->m3 x d)/\(∀x d,AVk H x d->m4 x d)/\∀x d,AVt H x d->m5 x d:=by
 have n:=λ{a} {xs} {ds} (q:H a=some (.lst xs)) (_:AVs H xs ds) (z:m2 xs ds)=>O q z;have J:=λ{a} {xs} {ds} (q:H a=some (.tup xs)) (_:AVs H xs ds) (z:m2 xs ds)=>U q z;have B:=λ{a C dx} {fs} {ds} (q:H a=some (.ins C dx fs)) (_:AVf H fs ds) (z:m3 fs ds)=>R q z;have j:=λ{a o} {fs} {ds} (q:H a=some (.frz o (.dK fs))) (_:AVk H fs ds) (z:m4 fs ds)=>T q z;have t:=λ{a o} {fs} {ds} (q:H a=some (.frz o (.dT fs))) (_:AVt H fs ds) (z:m5 fs ds)=>M q z;have c:=λ{a C dx} {fs} {ds} (q:H a=some (xcO a C (some dx))) (Q:H dx=some (.xd fs)) (_:AVf H fs ds) (z:m3 fs ds)=>L q Q z;have s:=λ{x} {xs} {d} {ds} (_:AV H x d) (_:AVs H xs ds) (y:m1 x d) (z:m2 xs ds)=>N y z;have g:=λ{f} {x} {fs} {d} {ds} (_:AV H x d) (_:AVf H fs ds) (y:m1 x d) (z:m3 fs ds)=>P (f:=f) y z;have D:=λ{k} {x} {fs} {d} {ds} (_:AV H x d) (_:AVk H fs ds) (y:m1 x d) (z:m4 fs ds)=>W (k:=k) y z;have w:=λ{k} {x} {fs} {d} {ds} (_:AV H x d) (_:AVt H fs ds) (y:m1 x d) (z:m5 fs ds)=>S (k:=k) y z
 let p:=λx d (_:AV H x d)=>m1 x d
 let M2:=λx d (_:AVs H x d)=>m2 x d
 let u:=λx d (_:AVf H x d)=>m3 x d
 let F:=λx d (_:AVk H x d)=>m4 x d
 let r:=λx d (_:AVt H x d)=>m5 x d
 exact⟨λ_ _ h=>@AV.rec H p M2 u F r I m l A n J B j t c e G s K g E D v w _ _ h,λ_ _ h=>@AVs.rec H p M2 u F r I m l A n J B j t c e G s K g E D v w _ _ h,λ_ _ h=>@AVf.rec H p M2 u F r I m l A n J B j t c e G s K g E D v w _ _ h,λ_ _ h=>@AVk.rec H p M2 u F r I m l A n J B j t c e G s K g E D v w _ _ h,λ_ _ h=>@AVt.rec H p M2 u F r I m l A n J B j t c e G s K g E D v w _ _ h⟩
theorem AVs.ind {H:Hp}{motive:(xs:List V)->(ds:List PyData)->AVs H xs ds->Prop}(nil:motive [] [] .nil)(cons:∀{x:V}{xs:List V}{d:PyData}{ds:List PyData} (a:AV H x d) (r:AVs H xs ds),motive xs ds r->motive (x::xs) (d::ds) (.cons a r)){xs:List V}{ds:List PyData}(h:AVs H xs ds):motive xs ds h:=
 ((iT (m1:=AV H) (m2:=λxs ds=>∃h:AVs H xs ds,motive xs ds h) (m3:=AVf H) (m4:=AVk H) (m5:=AVt H) .non .bl .int .str (λq z=>.lst q z.1) (λq z=>.tup q z.1) .ins .dk .dt .xc .xn ⟨.nil,nil⟩ (λa z=>⟨.cons a z.1,cons a z.1 z.2⟩) .nil .cons .nil .cons .nil .cons).2.1 _ _ h).2
theorem AVf.ind {H:Hp}{motive:(xs:List (Str×V))->(ds:List (PyData×PyData))->AVf H xs ds->Prop}(nil:motive [] [] .nil)(cons:∀{f:Str}{x:V}{fs:List (Str×V)}{d:PyData}{ds:List (PyData×PyData)} (a:AV H x d) (r:AVf H fs ds),motive fs ds r->motive ((f,x)::fs) ((.str f,d)::ds) (.cons a r)){xs:List (Str×V)}{ds:List (PyData×PyData)}(h:AVf H xs ds):motive xs ds h:=
 ((iT (m1:=AV H) (m2:=AVs H) (m3:=λxs ds=>∃h:AVf H xs ds,motive xs ds h) (m4:=AVk H) (m5:=AVt H) .non .bl .int .str .lst .tup (λq z=>.ins q z.1) .dk .dt (λq s z=>.xc q s z.1) .xn .nil .cons ⟨.nil,nil⟩ (λa z=>⟨.cons a z.1,cons a z.1 z.2⟩) .nil .cons .nil .cons).2.2.1 _ _ h).2
theorem AVk.ind {H:Hp}{motive:(xs:List (Key×V))->(ds:List (PyData×PyData))->AVk H xs ds->Prop}(nil:motive [] [] .nil)(cons:∀{k:Key}{x:V}{fs:List (Key×V)}{d:PyData}{ds:List (PyData×PyData)} (a:AV H x d) (r:AVk H fs ds),motive fs ds r->motive ((k,x)::fs) ((xG k,d)::ds) (.cons a r)){xs:List (Key×V)}{ds:List (PyData×PyData)}(h:AVk H xs ds):motive xs ds h:=
 ((iT (m1:=AV H) (m2:=AVs H) (m3:=AVf H) (m4:=λxs ds=>∃h:AVk H xs ds,motive xs ds h) (m5:=AVt H) .non .bl .int .str .lst .tup .ins (λq z=>.dk q z.1) .dt .xc .xn .nil .cons .nil .cons ⟨.nil,nil⟩ (λa z=>⟨.cons a z.1,cons a z.1 z.2⟩) .nil .cons).2.2.2.1 _ _ h).2
theorem br {H H':Hp}(e:zz H H'):(∀x d,AV H x d->AV H' x d)/\(∀x d,AVs H x d->AVs H' x d)/\(∀x d,AVf H x d->AVf H' x d)/\(∀x d,AVk H x d->AVk H' x d)/\∀x d,AVt H x d->AVt H' x d:=by refine iT (m1:=λx d=>AV H' x d) (m2:=λx d=>AVs H' x d) (m3:=λx d=>AVf H' x d) (m4:=λx d=>AVk H' x d) (m5:=λx d=>AVt H' x d) .non .bl .int .str (λhq a=>.lst (e _ _ hq) a) (λhq a=>.tup (e _ _ hq) a) (λhq a=>.ins (e _ _ hq) a) (λhq a=>.dk (e _ _ hq) a) (λhq a=>.dt (e _ _ hq) a) (λhq hd a=>.xc (e _ _ hq) (e _ _ hd) a) (λhq=>.xn (e _ _ hq)) .nil .cons .nil .cons .nil .cons .nil .cons
theorem AV.same {H H':Hp}(e:zz H H'){x:V}{d:PyData}(h:AV H x d):AV H' x d:=(br e).1 _ _ h
theorem AVs.same {H H':Hp}(e:zz H H'){xs:List V}{ds:List PyData}(h:AVs H xs ds):AVs H' xs ds:=(br e).2.1 _ _ h
theorem AVk.same {H H':Hp}(e:zz H H'){fs:List (Key×V)}{ds:List (PyData×PyData)}(h:AVk H fs ds):AVk H' fs ds:=(br e).2.2.2.1 _ _ h
theorem dv5 {H:Hp}:(∀x d,AV H x d->d.hasDict=false->DV H x d)/\(∀x d,AVs H x d->PyData.hasDictAll d=false->DVs H x d):=by
 have r:=iT (H:=H) (m1:=λx d=>d.hasDict=false->DV H x d) (m2:=λx d=>PyData.hasDictAll d=false->DVs H x d) (m3:=λ_ _=>True) (m4:=λ_ _=>True) (m5:=λ_ _=>True) (λ_=>.non) (λb _=>.bl b) (λi _=>.int i) (λx _=>.str x) (λhq a h=>.lst hq (a (by simpa only[PyData.hasDict]using h))) (λhq a h=>.tup hq (a (by simpa only[PyData.hasDict]using h))) (λ_ _ h=>by simp[PyData.hasDict]at h) (λ_ _ h=>by simp[PyData.hasDict]at h) (λ_ _ h=>by simp[PyData.hasDict]at h) (λ_ _ _ h=>by simp[PyData.hasDict]at h) (λ_ h=>by simp[PyData.hasDict]at h) (λ_=>.nil)
  (λh a e=>by
   simp only[PyData.hasDictAll,Bool.or_eq_false_iff]at e;exact .cons (h e.1) (a e.2)) trivial (λ_ _=>trivial) trivial (λ_ _=>trivial) trivial (λ_ _=>trivial)
 exact⟨r.1,r.2.1⟩
theorem AV.dv {H:Hp}{x:V}{d:PyData}(h:AV H x d)(e:d.hasDict=false):DV H x d:=dv5.1 _ _ h e
theorem AVs.dv {H:Hp}{xs:List V}{ds:List PyData}(h:AVs H xs ds)(e:PyData.hasDictAll ds=false):DVs H xs ds:=dv5.2 _ _ h e
theorem AVs.length {H:Hp}{xs:List V}{ds:List PyData}(h:AVs H xs ds):xs.length=ds.length:=h.ind (motive:=λxs ds _=>xs.length=ds.length) rfl λ_ _ z=>congrArg (·+1) z
theorem AVs.append {H:Hp}{xs ys:List V}{ds b:List PyData}(h:AVs H xs ds)(k:AVs H ys b):AVs H (xs++ys) (ds++b):=h.ind (motive:=λxs ds _=>AVs H (xs++ys) (ds++b)) k λa _ z=>.cons a z
theorem AVs.get {H:Hp}{xs:List V}{ds:List PyData}{i:Nat}{d:PyData}(h:AVs H xs ds)(e:ds[i]?=some d):∃x,xs[i]?=some x/\AV H x d:=by
 induction h using AVs.ind generalizing i with
 |nil=>simp at e
 |cons a _ b=>
  cases i with
  |zero=>exact⟨_,rfl,z00 e▸a⟩
  |succ i=>exact b (i:=i) e
theorem AVs.take {H:Hp}{xs:List V}{ds:List PyData}(n:Nat)(h:AVs H xs ds):AVs H (xs.take n) (ds.take n):=by
 induction h using AVs.ind generalizing n with
 |nil=>cases n<;>exact .nil
 |cons a _ b=>
  cases n with
  |zero=>exact .nil
  |succ n=>exact .cons a (b n)
theorem AVs.drop {H:Hp}{xs:List V}{ds:List PyData}(n:Nat)(h:AVs H xs ds):AVs H (xs.drop n) (ds.drop n):=by
 induction h using AVs.ind generalizing n with
 |nil=>cases n<;>exact .nil
 |cons a r b=>
  cases n with
  |zero=>exact .cons a r
  |succ n=>exact b n
theorem AVs.set {H:Hp}{x:V}{d:PyData}(a:AV H x d){xs:List V}{ds:List PyData}(i:Nat)(h:AVs H xs ds):AVs H (xs.set i x) (ds.set i d):=by
 induction h using AVs.ind generalizing i with
 |nil=>exact .nil
 |cons q r b=>
  cases i with
  |zero=>exact .cons a r
  |succ i=>exact .cons q (b i)
theorem AVs.atI {H:Hp}{xs:List V}{ds:List PyData}{i:Int}{d:PyData}(h:AVs H xs ds)(e:atI ds i=some d):∃x,L2.atI xs i=some x/\AV H x d:=by
 unfold L2.atI at e ⊢;rw[h.length];cases q:ixN ds.length i with
 |none=>rw[q]at e;cases e
 |some j=>
  rw[q]at e;exact h.get (i:=j) e
def cutD (ds:List PyData)(lo hi:Option Int):List PyData:=(ds.drop (HT.sIx ds.length 0 lo)).take (HT.sIx ds.length ds.length hi-HT.sIx ds.length 0 lo)
theorem AVs.cut {H:Hp}{xs:List V}{ds:List PyData}(h:AVs H xs ds)(lo hi:Option Int):AVs H (oS xs lo hi) (cutD ds lo hi):=by
 unfold oS cutD;rw[h.length];exact(h.drop _).take _
mutual
def noL :PyData->Bool
 |.list _=>false
 |.dict ((.none,_)::_)=>false
 |.dict kvs=>sf kvs
 |.tuple ds=>wU ds
 |_=>true
def wU :List PyData->Bool
 |[]=>true
 |d::r=>noL d&&wU r
def sf :List (PyData×PyData)->Bool
 |[]=>true
 |(_,d)::r=>noL d&&sf r
end
def Ob :HO->Prop
 |.lst _=>True
 |.dK _=>True
 |.frz _ _=>True
 |_=>False
theorem zP0 {H H':Hp}(e:∀a o,¬Ob o->H a=some o->H' a=some o):(∀x d,AV H x d->noL d=true->AV H' x d)/\(∀x d,AVs H x d->wU d=true->AVs H' x d)/\(∀x d,AVf H x d->sf d=true->AVf H' x d)/\(∀x d,AVk H x d->sf d=true->AVk H' x d):=by
 have r:=iT (H:=H) (m1:=λx d=>noL d=true->AV H' x d) (m2:=λx d=>wU d=true->AVs H' x d) (m3:=λx d=>sf d=true->AVf H' x d) (m4:=λx d=>sf d=true->AVk H' x d) (m5:=λ_ _=>True) (λ_=>.non) (λb _=>.bl b) (λi _=>.int i) (λx _=>.str x) (λ_ _ h=>by simp[L2.noL]at h) (λhq c h=>.tup (e _ _ (λz=>z) hq) (c (by simpa only[L2.noL]using h))) (λhq c h=>.ins (e _ _ (λz=>z) hq) (c (by simpa[L2.noL,L2.sf]using h))) (λ_ _ h=>by simp[L2.noL]at h) (λ_ _ h=>by simp[L2.noL]at h) (λhq hd c h=>.xc (e _ _ (λz=>z) hq) (e _ _ (λz=>z) hd) (c (by simpa[L2.noL,L2.sf]using h))) (λhq _=>.xn (e _ _ (λz=>z) hq)) (λ_=>.nil)
  (λh c q=>by
   simp only[L2.wU,z24]at q;exact .cons (h q.1) (c q.2)) (λ_=>.nil)
  (λh c q=>by
   simp only[L2.sf,z24]at q;exact .cons (h q.1) (c q.2)) (λ_=>.nil)
  (λh c q=>by
   simp only[L2.sf,z24]at q;exact .cons (h q.1) (c q.2)) trivial (λ_ _=>trivial)
 exact⟨r.1,r.2.1,r.2.2.1,r.2.2.2.1⟩
theorem AV.noL {H H':Hp}(e:∀a o,¬Ob o->H a=some o->H' a=some o){x:V}{d:PyData}(h:AV H x d)(q:L2.noL d=true):AV H' x d:=(zP0 e).1 _ _ h q
theorem AVs.noL {H H':Hp}(e:∀a o,¬Ob o->H a=some o->H' a=some o){xs:List V}{ds:List PyData}(h:AVs H xs ds)(q:wU ds=true):AVs H' xs ds:=(zP0 e).2.1 _ _ h q
structure Fr where
 H0:Hp
 O0:Addr->Prop
 tp:Option (Addr×Addr×Addr)
inductive A where
 |dat (d:PyData)
 |ow (c:PyData)
 |deep (d:PyData) (S:Addr->Prop)
 |tape
 |at(l:Addr)
 |exc (r:Fr) (q:PyData->Prop)
 |pin (l:Addr) (vs:List V) (ds:List PyData)
 |nst (l:Addr) (ls:List Addr) (dss:List (List PyData))
@[reducible] def A.own (ds:List PyData):A:=.ow (.list ds)
abbrev yT (ds:List (PyData×PyData)):PyData:=.dict ((.none,.none)::ds)
@[reducible] def A.dic (ds:List (PyData×PyData)):A:=.ow (yT ds)
abbrev Ev :=List (Option A)
def wF (o:HO):Prop:=∀ts,o≠.tup ts
theorem yQ {xs:List V}:wF (.lst xs):=λ_ z=>by cases z
theorem Ob.notup {o:HO}(h:Ob o):wF o:=λts z=>by subst z;exact h
def NT (F:Fr)(x:Addr):Prop:=(∀t b c,F.tp=some (t,b,c)->x≠t/\x≠b)/\¬sS x
def Kz (F:Fr)(H H':Hp):Prop:=∀x o,H x=some o->NT F x->H' x=some o
structure zG (F:Fr)(H:Hp):Prop where
 tab:TabAt H
 ot:∀x,sS x->F.O0 x
 all:∀t b c,F.tp=some (t,b,c)->yz H t b c/\F.O0 t/\F.O0 b/\F.O0 c
instance {F:Fr} {H:Hp}:CoeFun (zG F H) (λ_=>∀t b c,F.tp=some (t,b,c)->yz H t b c/\F.O0 t/\F.O0 b/\F.O0 c):=⟨zG.all⟩
theorem zG.to {F F':Fr}{H:Hp}(t:zG F H)(g:F'.tp=F.tp)(d:∀x,F.O0 x->F'.O0 x):zG F' H:=⟨t.tab,λx h=>d x (t.ot x h),λa b c e=>by
 obtain⟨h1,h2,h3,f⟩:=t a b c (g▸e);exact⟨h1,d _ h2,d _ h3,d _ f⟩⟩
theorem zG.re {F F':Fr}{H H':Hp}(t:zG F H)(t':zG F' H')(d:F'.tp=F.tp):zG F H':=⟨t'.tab,t.ot,λa b c e=>⟨(t' a b c (d▸e)).1,(t a b c e).2⟩⟩
theorem zG.upd {F:Fr}{H:Hp}{l:Addr}{o:HO}(t:zG F H)(h:∀a b c,F.tp=some (a,b,c)->l≠a/\l≠b/\l≠c)(d:Plain H l):zG F (upd H l o):=⟨zh2 t.tab d,t.ot,λa b c e=>⟨zc7 (t a b c e).1 (h a b c e),(t a b c e).2⟩⟩
theorem zG.updO {F:Fr}{H:Hp}{l:Addr}{o:HO}(t:zG F H)(h:¬F.O0 l)(d:Plain H l):zG F (L2.upd H l o):=t.upd (λa b c e=>⟨λz=>h (by rw[z];exact(t a b c e).2.1),λz=>h (by rw[z];exact(t a b c e).2.2.1),λz=>h (by rw[z];exact(t a b c e).2.2.2)⟩) d
def foot (s:Option V):A->Addr->Prop
 |.ow _,x=>s=some (.ref x)
 |.deep _ S,x=>S x
 |.nst l ls _,x=>x∈l::ls
 |_,_=>False
def Ow (F:Fr)(α:Ev)(σ:St)(x:Addr):Prop:=F.O0 x\/∃(i:Nat) (a:A) (s:Option V),α[i]?=some (some a)/\σ[i]?=some s/\foot s a x
noncomputable abbrev Gz (F:Fr)(α:Ev)(σ:St)(H:Hp):Hp:=sub (λx=>¬Ow F α σ x) H
noncomputable def nZ (S:Addr->Prop)(G H:Hp):Hp:=λx=>open Classical in if S x then H x else match G x with
 |some (.lst _)=>none
 |o=>o
theorem qJ {S:Addr->Prop}{G a H H':Hp}(h:zz G a)(b:∀x o,S x->H x=some o->H' x=some o):zz (nZ S G H) (nZ S a H'):=λx o e=>by
 unfold nZ at e ⊢;by_cases z:S x
 ·rw[if_pos z]at e ⊢;exact b x o z e
 ·rw[if_neg z]at e ⊢;cases q:G x with
  |none=>rw[q]at e;cases e
  |some u=>
   rw[h _ _ q];rw[q]at e;exact e
theorem cP {S:Addr->Prop}{G H:Hp}{x:Addr}{o:HO}(h:nZ S G H x=some o):(S x/\H x=some o)\/(¬S x/\G x=some o):=by
 unfold nZ at h;by_cases z:S x
 ·rw[if_pos z]at h;exact .inl ⟨z,h⟩
 ·rw[if_neg z]at h;split at h
  ·cases h
  ·exact .inr ⟨z,h⟩
inductive yG (G:Hp):HO->PyData->Prop where
 |lst {xs:List V}{ds:List PyData}:AVs G xs ds->yG G (.lst xs) (.list ds)
 |dk {kvs:List (Key×V)}{ds:List (PyData×PyData)}:AVk G kvs ds->yG G (.dK kvs) (yT ds)
theorem yG.ob {G:Hp}{o:HO}{c:PyData}(h:yG G o c):Ob o:=by cases h<;>trivial
theorem yG.same {G a:Hp}{o:HO}{c:PyData}(h:yG G o c)(s:zz G a):yG a o c:=by
 cases h with
 |lst h=>exact .lst (h.same s)
 |dk h=>exact .dk (h.same s)
theorem yG.av {G:Hp}{o:HO}{ds:List PyData}{l:Addr}(h:yG G o (.list ds))(e:G l=some o):AV G (.ref l) (.list ds):=by
 cases h with
 |lst h=>exact .lst e h
theorem yG.lst_inv {G:Hp}{o:HO}{ds:List PyData}(h:yG G o (.list ds)):∃xs,o=.lst xs/\AVs G xs ds:=by cases h;exact⟨_,rfl,by assumption⟩
theorem yG.dk_inv {G:Hp}{o:HO}{ds:List (PyData×PyData)}(h:yG G o (yT ds)):∃xs,o=.dK xs/\AVk G xs ds:=by cases h;exact⟨_,rfl,by assumption⟩
theorem yG.plain {G H:Hp}{o:HO}{c:PyData}{l:Addr}(h:yG G o c)(e:H l=some o):Plain H l:=by
 cases h with
 |lst h=>exact qH e
 |dk h=>exact rM e
structure Lnk (r F:Fr)(H:Hp):Prop where
 tp:r.tp=F.tp
 o:∀x,r.O0 x->F.O0 x
 ok:zG r H
 k:Kz r r.H0 H
def xZ (G H:Hp):List Addr->List (List PyData)->Prop
 |[],[]=>True
 |a::ls,ds::dss=>(∃xs,H a=some (.lst xs)/\AVs G xs ds)/\xZ G H ls dss
 |_,_=>False
theorem xZ.same {G c H H':Hp}(g:zz G c):∀{ls:List Addr}{dss:List (List PyData)},(∀a∈ls,∀o,H a=some o->H' a=some o)->xZ G H ls dss->xZ c H' ls dss
 |[],[],_,_=>trivial
 |a::ls,ds::dss,h,⟨⟨xs,e,av⟩,r⟩=>⟨⟨xs,h a zX9 _ e,av.same g⟩,xZ.same g (λb hb=>h b (zX8 _ hb)) r⟩
 |[],_::_,_,z=>z.elim
 |_::_,[],_,z=>z.elim
theorem xZ.obj {G H:Hp}:∀{ls:List Addr}{dss:List (List PyData)},xZ G H ls dss->∀a∈ls,∃xs,H a=some (.lst xs)
 |[],_,_,_,h=>by cases h
 |b::ls,ds::dss,⟨⟨xs,e,_⟩,r⟩,a,h=>by
  rcases zX6.mp h with z|z
  ·exact⟨xs,z▸e⟩
  ·exact xZ.obj r a z
 |_::_,[],z,_,_=>z.elim
theorem xZ.avs {G H:Hp}{p:Addr->Prop}(g:zz G (sub p H)):∀{ls:List Addr}{dss:List (List PyData)},(∀a∈ls,p a)->xZ G H ls dss->AVs (sub p H) (ls.map .ref) (dss.map .list)
 |[],[],_,_=>.nil
 |a::ls,ds::dss,h,⟨⟨xs,e,av⟩,r⟩=>.cons (.lst (zA (h a zX9) e) (av.same g)) (xZ.avs g (λb hb=>h b (zX8 _ hb)) r)
 |[],_::_,_,z=>z.elim
 |_::_,[],_,z=>z.elim
def vC (G:Hp)(F:Fr)(H:Hp)(s:Option V):A->Prop
 |.dat d=>∃v,s=some v/\AV G v d
 |.ow c=>∃l o,s=some (.ref l)/\H l=some o/\yG G o c/\¬F.O0 l/\F.H0 l=none
 |.deep d S=>∃v,s=some v/\AV (nZ S G H) v d/\∀x,S x->¬F.O0 x/\F.H0 x=none/\∃xs,H x=some (.lst xs)
 |.tape=>∃t b c,F.tp=some (t,b,c)/\s=some (.ref t)
 |.at l=>s=some (.ref l)
 |.exc r _=>Lnk r F H
 |.pin l vs ds=>s=some (.ref l)/\G l=some (.lst vs)/\AVs G vs ds
 |.nst l ls dss=>s=some (.ref l)/\H l=some (.lst (ls.map .ref))/\xZ G H ls dss/\(l::ls).Nodup/\∀x∈l::ls,¬F.O0 x/\F.H0 x=none
structure M (F:Fr)(α:Ev)(σ:St)(H:Hp):Prop where
 len:α.length=σ.length
 ok:∀(i:Nat) (a:A) (s:Option V),α[i]?=some (some a)->σ[i]?=some s->vC (Gz F α σ H) F H s a
 dj:∀(i j:Nat) (a b:A) (s t:Option V) (x:Addr),α[i]?=some (some a)->α[j]?=some (some b)->σ[i]?=some s->σ[j]?=some t->foot s a x->foot t b x->i=j
 xd:∀(i:Nat) (r:Fr) (q:PyData->Prop),α[i]?=some (some (.exc r q))->∀(j:Nat) (a:A) (s:Option V) (x:Addr),α[j]?=some (some a)->σ[j]?=some s->foot s a x->r.H0 x=none
 tp:zG F H
 keep:Kz F F.H0 H
 oex:∀x,F.O0 x->∃o,H x=some o/\wF o
theorem M.at' {F:Fr}{α:Ev}{σ:St}{H:Hp}(m:M F α σ H){i:Nat}{a:Option A}(e:α[i]?=some a):∃s,σ[i]?=some s:=by
 have:i<σ.length:=by rw[<-m.len];exact(zX5.mp e).1
 exact⟨_,zX3 this⟩
theorem ou {G:Hp}{F:Fr}{H:Hp}{s:Option V}{a:A}{x:Addr}(h:vC G F H s a)(f:foot s a x):¬F.O0 x/\F.H0 x=none/\∃o,H x=some o/\Ob o:=by
 cases a with
 |ow c=>
  obtain⟨l,o,h1,h2,h3,i,g⟩:=h;have b:s=some (.ref x):=f;rw[b]at h1;cases h1;exact⟨i,g,o,h2,h3.ob⟩
 |deep d S=>
  obtain⟨v,h1,h2,h3⟩:=h;obtain⟨k,j,xs,z3⟩:=h3 x f;exact⟨k,j,_,z3,trivial⟩
 |dat d=>exact f.elim
 |tape=>exact f.elim
 |«at» l=>exact f.elim
 |exc r q=>exact f.elim
 |pin l vs ds=>exact f.elim
 |nst l ls dss=>
  obtain⟨h1,h2,h3,i,g⟩:=h;have b:x∈l::ls:=f;refine⟨(g x b).1,(g x b).2,?_⟩;rcases zX6.mp b with z|z
  ·exact⟨.lst (ls.map .ref),z▸h2,trivial⟩
  ·obtain⟨xs,e⟩:=h3.obj x z;exact⟨.lst xs,e,trivial⟩
theorem Lnk.kz {r F:Fr}{H H':Hp}(l:Lnk r F H)(k:Kz F H H')(t:zG F H'):Lnk r F H':=⟨l.tp,l.o,l.ok.re t l.tp.symm,λx o e n=>k x o (l.k x o e n) ⟨λa b c z=>n.1 a b c (l.tp.trans z),n.2⟩⟩
theorem Lnk.none {r F:Fr}{H:Hp}(l:Lnk r F H){x:Addr}(h:H x=Option.none):r.H0 x=Option.none:=by
 cases q:r.H0 x with
 |none=>rfl
 |some o=>rw[l.k x o q ⟨λa b c e=>⟨((l.ok a b c e).1.free h).1,((l.ok a b c e).1.free h).2.1⟩,ny l.ok.tab h⟩]at h;cases h
def noX :A->Prop
 |.exc _ _=>False
 |_=>True
theorem vC.stay {G m:Hp}{F F':Fr}{H H':Hp}{s:Option V}{a:A}(h:vC G F H s a)(g:zz G m)(hf:∀x o,foot s a x->H x=some o->H' x=some o/\¬F'.O0 x/\F'.H0 x=none)(n:F'.tp=F.tp)(p:∀r q,a=.exc r q->Lnk r F H->Lnk r F' H'):vC m F' H' s a:=by
 cases a with
 |dat d=>obtain⟨v,h1,h2⟩:=h;exact⟨v,h1,h2.same g⟩
 |ow c=>
  obtain⟨l,o,h1,h2,h3,k,u⟩:=h;obtain⟨j,f,z3⟩:=hf l o h1 h2;exact⟨l,o,h1,j,h3.same g,f,z3⟩
 |deep d S=>
  obtain⟨v,h1,h2,h3⟩:=h;refine⟨v,h1,h2.same (qJ g λx o z e=>(hf x o z e).1),λx z=>?_⟩;obtain⟨_,_,xs,e⟩:=h3 x z;obtain⟨j,f,z3⟩:=hf x _ z e;exact⟨f,z3,xs,j⟩
 |tape=>obtain⟨t,b,c,e,z⟩:=h;exact⟨t,b,c,n.trans e,z⟩
 |«at» l=>exact h
 |exc r q=>exact p r q rfl h
 |pin l vs ds=>exact⟨h.1,g _ _ h.2.1,h.2.2.same g⟩
 |nst l ls dss=>
  obtain⟨h1,h2,h3,k,u⟩:=h;refine⟨h1,(hf l _ zX9 h2).1,h3.same g λa ha o e=>(hf a o (zX8 _ ha) e).1,k,λx i=>?_⟩;rcases zX6.mp i with z|z
  ·exact(hf x _ i (z▸h2)).2
  ·obtain⟨xs,e⟩:=h3.obj x z;exact(hf x _ i e).2
section
variable {F:Fr}{α:Ev}{σ:St}{H H' H'':Hp}
theorem M.dat (m:M F α σ H)(i:Nat)(d:PyData)(e:α[i]?=some (some (.dat d))):∃v,σ[i]?=some (some v)/\AV (Gz F α σ H) v d:=by
 obtain⟨s,a⟩:=m.at' e;obtain⟨v,rfl,h⟩:=m.ok i _ s e a;exact⟨v,a,h⟩
theorem M.owc (m:M F α σ H)(i:Nat)(c:PyData)(e:α[i]?=some (some (.ow c))):∃l o,σ[i]?=some (some (.ref l))/\H l=some o/\yG (Gz F α σ H) o c/\¬F.O0 l/\F.H0 l=none:=by
 obtain⟨s,a⟩:=m.at' e;obtain⟨l,o,rfl,h⟩:=m.ok i _ s e a;exact⟨l,o,a,h⟩
theorem M.own (m:M F α σ H)(i:Nat)(ds:List PyData)(e:α[i]?=some (some (.own ds))):∃l xs,σ[i]?=some (some (.ref l))/\H l=some (.lst xs)/\AVs (Gz F α σ H) xs ds/\¬F.O0 l/\F.H0 l=none:=by
 obtain⟨l,o,h1,h2,h3,b⟩:=m.owc i _ e;obtain⟨xs,rfl,a⟩:=h3.lst_inv;exact⟨l,xs,h1,h2,a,b⟩
theorem M.dic (m:M F α σ H)(i:Nat)(ds:List (PyData×PyData))(e:α[i]?=some (some (.dic ds))):∃l xs,σ[i]?=some (some (.ref l))/\H l=some (.dK xs)/\AVk (Gz F α σ H) xs ds/\¬F.O0 l/\F.H0 l=none:=by
 obtain⟨l,o,h1,h2,h3,b⟩:=m.owc i _ e;obtain⟨xs,rfl,a⟩:=h3.dk_inv;exact⟨l,xs,h1,h2,a,b⟩
theorem M.tvar (m:M F α σ H)(i:Nat)(e:α[i]?=some (some .tape)):∃t b c,F.tp=some (t,b,c)/\σ[i]?=some (some (.ref t)):=by
 obtain⟨s,a⟩:=m.at' e;obtain⟨t,b,c,h,rfl⟩:=m.ok i _ s e a;exact⟨t,b,c,h,a⟩
theorem M.lnk (m:M F α σ H){i:Nat}{r:Fr}{q:PyData->Prop}(e:α[i]?=some (some (.exc r q))):Lnk r F H:=by
 obtain⟨s,a⟩:=m.at' e;exact m.ok i _ s e a
theorem Kz.refl :Kz F H H:=λ_ _ e _=>e
theorem Kz.trans (h:Kz F H H')(k:Kz F H' H''):Kz F H H'':=λx o e n=>k x o (h x o e n) n
theorem Kz.of_same (h:zz H H'):Kz F H H':=λx o e _=>h x o e
theorem zG.same (t:zG F H)(h:zz H H'):zG F H':=⟨aO t.tab h,t.ot,λa b c e=>⟨fh (t a b c e).1 h,(t a b c e).2⟩⟩
theorem zG.nt (t:zG F H){x:Addr}(h:¬F.O0 x):NT F x:=⟨λa b c e=>⟨λz=>h (z▸(t a b c e).2.1),λz=>h (z▸(t a b c e).2.2.1)⟩,λz=>h (t.ot x z)⟩
theorem ow0 {x:Addr}(h:¬Ow F α σ x):¬F.O0 x:=λz=>h (.inl z)
theorem Kz.gz (k:Kz F H H')(t:zG F H):zz (Gz F α σ H) (Gz F α σ H'):=zq λa o h e=>⟨h,k a o e (t.nt (ow0 h))⟩
theorem M.oex' (t:zG F H')(k:Kz F H H')(h:∀x,F.O0 x->∃o,H x=some o/\wF o):∀x,F.O0 x->∃o,H' x=some o/\wF o:=λx i=>by
 by_cases n:NT F x
 ·obtain⟨o,d,hn⟩:=h x i;exact⟨o,k _ _ d n,hn⟩
 ·by_cases z:sS x
  ·obtain⟨o,d,hn,_⟩:=qT t.tab z;exact⟨o,d,hn⟩
  ·have:∃a b c,F.tp=some (a,b,c)/\¬(x≠a/\x≠b):=by
    refine Classical.byContradiction λq=>n ⟨λa b c e=>?_,z⟩;exact Classical.byContradiction λw=>q ⟨a,b,c,e,w⟩
   obtain⟨a,b,c,e,w⟩:=this;obtain⟨n,bs,cs,_,e1,j,l,_⟩:=(t a b c e).1.ex;by_cases g:x=a
   ·exact⟨_,g▸e1,yQ⟩
   ·by_cases f:x=b
    ·exact⟨_,f▸j,yQ⟩
    ·exact absurd ⟨g,f⟩ w
theorem M.kz (m:M F α σ H)(k:Kz F H H')(t:zG F H'):M F α σ H' where
 len:=m.len
 ok:=λi a s e1 b=>(m.ok i a s e1 b).stay (k.gz m.tp) (λx o hf e=>by
  obtain⟨h1,h2,_⟩:=ou (m.ok i a s e1 b) hf;exact⟨k x o e (m.tp.nt h1),h1,h2⟩) rfl λr _ _ l=>l.kz k t
 dj:=m.dj
 xd:=m.xd
 tp:=t
 keep:=m.keep.trans k
 oex:=M.oex' t k m.oex
theorem M.ft (m:M F α σ H){i:Nat}{a:A}{s:Option V}{x:Addr}(e1:α[i]?=some (some a))(b:σ[i]?=some s)(f:foot s a x):¬F.O0 x/\F.H0 x=none/\∃o,H x=some o/\Ob o:=ou (m.ok i a s e1 b) f
theorem M.owEx (m:M F α σ H){x:Addr}(h:Ow F α σ x):∃o,H x=some o/\wF o:=by
 rcases h with z|⟨i,a,s,e1,b,f⟩
 ·exact m.oex x z
 ·obtain⟨_,_,o,c,hb⟩:=m.ft e1 b f;exact⟨o,c,hb.notup⟩
theorem M.fresh (m:M F α σ H){l:Addr}(h:H l=none):¬Ow F α σ l:=λz=>by
 obtain⟨o,a,_⟩:=m.owEx z;rw[h]at a;cases a
theorem M.fresh0 (m:M F α σ H){l:Addr}(h:H l=none):F.H0 l=none:=by
 cases q:F.H0 l with
 |none=>rfl
 |some o=>rw[m.keep l o q (m.tp.nt λz=>m.fresh h (.inl z))]at h;cases h
theorem M.old (m:M F α σ H):zz (sub (λx=>¬F.O0 x) F.H0) (Gz F α σ H):=λa o e=>by
 obtain⟨h1,h2⟩:=zc e;refine zA ?_ (m.keep a o h2 (m.tp.nt h1));rintro(z|⟨i,b,s,e1,c,f⟩)
 ·exact h1 z
 ·obtain⟨_,z,_⟩:=m.ft e1 c f;rw[h2]at z;cases z
noncomputable def Fr.up (F:Fr)(G:Hp):Fr:={F with H0:=λx=>(F.H0 x).or (G x)}
theorem pO {G:Hp}{x:Addr}{o:HO}(h:F.H0 x=some o):(F.up G).H0 x=some o:=by show(F.H0 x).or (G x)=some o;rw[h];rfl
theorem kY {G:Hp}{x:Addr}(h:(F.up G).H0 x=none):F.H0 x=none:=by
 cases q:F.H0 x with
 |none=>rfl
 |some o=>rw[pO q]at h;cases h
theorem M.up (m:M F α σ H):M (F.up (Gz F α σ H)) α σ H where
 len:=m.len
 ok:=λi a s e1 c=>(m.ok i a s e1 c).stay (λ_ _ e=>e) (λx o hf e=>by
  obtain⟨h1,h2,_⟩:=m.ft e1 c hf;refine⟨e,h1,?_⟩;show(F.H0 x).or (Gz F α σ H x)=none;rw[h2];show Gz F α σ H x=none;cases q:Gz F α σ H x with
  |none=>rfl
  |some o=>exact absurd (.inr ⟨i,a,s,e1,c,hf⟩) (zc q).1) rfl λr _ _ l=>⟨l.tp,l.o,l.ok,l.k⟩
 dj:=m.dj
 xd:=m.xd
 tp:=m.tp.to rfl λ_ z=>z
 keep:=λx o e n=>by
  have b:(F.H0 x).or (Gz F α σ H x)=some o:=e;cases q:F.H0 x with
  |none=>rw[q,Option.none_or]at b;exact(zc b).2
  |some o'=>rw[q]at b;cases b;exact m.keep x _ q n
 oex:=m.oex
theorem M.down {G:Hp}(m:M (F.up G) α σ H):M F α σ H where
 len:=m.len
 ok:=λi a s e1 b=>(m.ok i a s e1 b).stay (λ_ _ e=>e) (λx o hf e=>by
  obtain⟨h1,h2,_⟩:=m.ft e1 b hf;exact⟨e,h1,kY h2⟩) rfl λr _ _ l=>⟨l.tp,l.o,l.ok,l.k⟩
 dj:=m.dj
 xd:=m.xd
 tp:=m.tp.to rfl λ_ z=>z
 keep:=λx o e n=>m.keep x o (pO e) n
 oex:=m.oex
theorem M.upold {b:Ev}{c:St}{H1:Hp}(m0:M F b c H1)(m:M (F.up (Gz F b c H1)) α σ H):zz (Gz F b c H1) (Gz F α σ H):=λa o e=>by
 obtain⟨h1,h2⟩:=zc e;have d:(F.up (Gz F b c H1)).H0 a=some o:=by
  show(F.H0 a).or (Gz F b c H1 a)=some o;cases q:F.H0 a with
  |none=>exact e
  |some o'=>
   have:=m0.keep a o' q (m0.tp.nt (ow0 h1));rw[h2]at this;cases this;rfl
 exact m.old a o (zA (p:=λx=>¬F.O0 x) (ow0 h1) d)
end
def yL (F:Fr)(α:Ev)(σ:St)(H:Hp)(v:V)(H':Hp)(ds:List PyData):Prop:=
 ∃l xs,v=.ref l/\H l=none/\H' l=some (.lst xs)/\AVs (sub (λx=>¬Ow F α σ x/\x≠l) H') xs ds
def lE (F:Fr)(α:Ev)(σ:St)(H:Hp)(v:V)(H':Hp)(c:PyData):Prop:=
 ∃l o,v=.ref l/\H l=none/\H' l=some o/\yG (sub (λx=>¬Ow F α σ x/\x≠l) H') o c
theorem yL.c {F:Fr}{α:Ev}{σ:St}{H H':Hp}{v:V}{ds:List PyData}(h:yL F α σ H v H' ds):lE F α σ H v H' (.list ds):=by
 obtain⟨l,xs,h1,h2,h3,a⟩:=h;exact⟨l,_,h1,h2,h3,.lst a⟩
theorem yL.av {F:Fr}{α:Ev}{σ:St}{H H':Hp}{v:V}{ds:List PyData}(m:M F α σ H)(h:yL F α σ H v H' ds):AV (Gz F α σ H') v (.list ds):=by
 obtain⟨l,xs,rfl,h1,h2,h3⟩:=h;exact .lst (zA (m.fresh h1) h2) (h3.same (zq λa o h e=>⟨h.1,e⟩))
section
variable (X:Cx)(α:Ev)
def EvD (e:Expr)(Q:PyData->Prop):Prop:=∀(F:Fr) (σ:St) (H:Hp) (R:VK),M F α σ H->(∀d v H',Q d->zG F H'->Kz F H H'->AV (Gz F α σ H') v d->R v H')->uo X e σ H R
def EvL (e:Expr)(Q:List PyData->Prop):Prop:=∀(F:Fr) (σ:St) (H:Hp) (R:VK),M F α σ H->(∀ds v H',Q ds->zG F H'->Kz F H H'->yL F α σ H v H' ds->R v H')->uo X e σ H R
def EvC (e:Expr)(Q:PyData->Prop):Prop:=∀(F:Fr) (σ:St) (H:Hp) (R:VK),M F α σ H->(∀c v H',Q c->zG F H'->Kz F H H'->lE F α σ H v H' c->R v H')->uo X e σ H R
def EvT (e:Expr)(Q:Bool->Prop):Prop:=∀(F:Fr) (σ:St) (H:Hp) (R:Bool->Hp->Prop),M F α σ H->(∀b H',Q b->zG F H'->Kz F H H'->R b H')->zR2 X e σ H R
def iO (F:Fr)(G:Hp)(v:V):A->Prop
 |.dat d=>AV G v d
 |.tape=>∃t b c,F.tp=some (t,b,c)/\v=.ref t
 |_=>False
inductive yp (F:Fr)(G:Hp):List V->List A->Prop where
 |nil:yp F G [] []
 |cons {v:V}{vs:List V}{a:A}{as:List A}:iO F G v a->yp F G vs as->yp F G (v::vs) (a::as)
def EvA (a:List Expr)(Q:List A->Prop):Prop:=∀(F:Fr) (σ:St) (H:Hp) (R:List V->Hp->Prop),M F α σ H->(∀as vs H',Q as->zG F H'->Kz F H H'->yp F (Gz F α σ H') vs as->R vs H')->zH7 X a σ H R
end
theorem iO.to {F F':Fr}{G d:Hp}(s:zz G d)(f:F'.tp=F.tp){v:V}:∀{a:A},iO F G v a->iO F' d v a
 |.dat _,h=>AV.same s h
 |.tape,⟨t,b,c,e,z⟩=>⟨t,b,c,f.trans e,z⟩
 |.ow _,h=>h
 |.deep _ _,h=>h
 |.at _,h=>h
 |.exc _ _,h=>h
 |.pin _ _ _,h=>h
 |.nst _ _ _,h=>h
theorem yp.to {F F':Fr}{G a:Hp}(s:zz G a)(c:F'.tp=F.tp){vs:List V}{as:List A}(h:yp F G vs as):yp F' a vs as:=by
 induction h with
 |nil=>exact .nil
 |cons h _ b=>exact .cons (h.to s c) b
theorem yp.length {F:Fr}{G:Hp}:∀{vs:List V}{as:List A},yp F G vs as->vs.length=as.length
 |_,_,.nil=>rfl
 |_,_,.cons _ r=>by rw[zY7,zY7,yp.length r]
def A.d :A->PyData
 |.dat d=>d
 |.ow c=>c
 |.deep d _=>d
 |.nst _ _ dss=>.list (dss.map .list)
 |_=>.none
def zf3 (F:Fr)(v:V)(H':Hp):A->Prop
 |.dat d=>AV (sub (λx=>¬F.O0 x) H') v d
 |.ow c=>∃l xs ds,v=.ref l/\c=.list ds/\F.H0 l=none/\¬F.O0 l/\H' l=some (.lst xs)/\AVs (sub (λx=>¬F.O0 x/\x≠l) H') xs ds
 |.deep d S=>AV (nZ S (sub (λx=>¬F.O0 x) H') H') v d/\∀x,S x->¬F.O0 x/\F.H0 x=none/\∃xs,H' x=some (.lst xs)
 |.nst l ls dss=>v=.ref l/\H' l=some (.lst (ls.map .ref))/\xZ (sub (λx=>¬F.O0 x/\x∉l::ls) H') H' ls dss/\(l::ls).Nodup/\∀x∈l::ls,¬F.O0 x/\F.H0 x=none
 |_=>False
def tf (F:Fr)(v:V)(H':Hp)(a:A):Prop:=zG F H'/\Kz F F.H0 H'/\zf3 F v H' a
def spA (φ:List A->(A->Prop)->Prop):Sp:=λvs H b _=>∃(F:Fr) (as:List A) (Q:A->Prop),F.H0=H/\zG F H/\(∀x,F.O0 x->∃o,H x=some o/\wF o)/\yp F (sub (λx=>¬F.O0 x) H) vs as/\φ as Q/\∀a v H',Q a->tf F v H' a->b v H'
theorem zf3.to {F F':Fr}{v:V}{H':Hp}{a:A}(r:zf3 F v H' a)(b:∀x,F'.O0 x->F.O0 x)(h0:∀x,F.H0 x=none->F'.H0 x=none):zf3 F' v H' a:=by
 have s:zz (sub (λx=>¬F.O0 x) H') (sub (λx=>¬F'.O0 x) H'):=zq λa o h e=>⟨λz=>h (b _ z),e⟩;cases a with
 |dat d=>exact AV.same s r
 |ow c=>
  obtain⟨l,xs,ds,h1,m,h2,h3,g,f⟩:=r;exact⟨l,xs,ds,h1,m,h0 _ h2,λz=>h3 (b _ z),g,f.same (zq λa o h e=>⟨⟨λz=>h.1 (b _ z),h.2⟩,e⟩)⟩
 |deep d S=>
  obtain⟨h1,h2⟩:=r;refine⟨h1.same (qJ s λ_ _ _ e=>e),λx z=>?_⟩;obtain⟨k,j,z3⟩:=h2 x z;exact⟨λw=>k (b _ w),h0 _ j,z3⟩
 |tape=>exact r
 |«at» _=>exact r
 |exc _ _=>exact r
 |pin _ _ _=>exact r
 |nst l ls dss=>
  obtain⟨h1,h2,h3,g,f⟩:=r;exact⟨h1,h2,h3.same (zq λa o h e=>⟨⟨λz=>h.1 (b _ z),h.2⟩,e⟩) (λ_ _ _ e=>e),g,λx i=>⟨λz=>(f x i).1 (b _ z),h0 _ (f x i).2⟩⟩
structure xf where
 nx:Ev->Prop
 rt:A->Prop
 bk:Ev->Prop:=λ_=>False
 ct:Ev->Prop:=λ_=>False
structure oz (F:Fr)(E:xf)(D:Ends):Prop where
 nx:∀α σ H,M F α σ H->E.nx α->D.nx σ H
 rt:∀a v H,tf F v H a->E.rt a->D.rt v H
 bk:∀α σ H,M F α σ H->E.bk α->D.bk σ H
 ct:∀α σ H,M F α σ H->E.ct α->D.ct σ H
def SvS (X:Cx)(α:Ev)(a:List Stmt)(E:xf):Prop:=∀(F:Fr) (σ:St) (H:Hp) (D:Ends),M F α σ H->oz F E D->ze2 X a D σ H
theorem oz.up {F:Fr}{G:Hp}{E:xf}{D:Ends}(e:oz F E D):oz (F.up G) E D where
 nx:=λα σ H m q=>e.nx α σ H m.down q
 bk:=λα σ H m q=>e.bk α σ H m.down q
 ct:=λα σ H m q=>e.ct α σ H m.down q
 rt:=λa v H r q=>e.rt a v H (by
  obtain⟨t,k,r⟩:=r;exact⟨t.to rfl λ_ z=>z,λx o e n=>k x o (pO e) n,r.to (λ_ z=>z) λx z=>kY z⟩) q
section
variable {X:Cx}{α:Ev}{e a b c:Expr}{es:List Expr}{pos p q:Pos}{Q:PyData->Prop}
theorem EvL.d (h:EvL X α e (λds=>Q (.list ds))):EvD X α e Q:=λF σ H R m k=>h F σ H R m λds v H' q t z f=>k _ v H' q t z (f.av m)
theorem EvD.imp {f:PyData->Prop}(h:EvD X α e f)(k:∀d,f d->Q d):EvD X α e Q:=λF σ H R m r=>h F σ H R m λd v H' q=>r d v H' (k d q)
theorem zh (i:Nat){x:Str}{d:PyData}(hi:α[i]?=some (some (.dat d)))(q:Q d)(h:X.N[i]?=some x:=by rfl)(g:Vis X.env.scope x:=by first|exact Or.inl rfl|exact Or.inr (Or.inl rfl)|exact Or.inr (Or.inr rfl))
  (hd:(x == ("__debug__":Str))=false:=by decide) (f:(x == ("__classdict__":Str))=false:=by decide):EvD X α (.Name x pos) Q:=λF σ H R m k=>by
 obtain⟨v,h1,h2⟩:=m.dat i d hi;exact⟨_,xg h g hd f,v,h1,k d v H q m.tp Kz.refl h2⟩
theorem yr {i:Int}{j:Nat}(q:Q (.int i)):EvD X α (.Constant (.int i) j pos) Q:=λF σ H R m k=>⟨_,zv,k _ _ H q m.tp Kz.refl (.int i)⟩
theorem bE {i:Bool}{j:Nat}(q:Q (.bool i)):EvD X α (.Constant (.bool i) j pos) Q:=λF σ H R m k=>⟨_,zQ6,k _ _ H q m.tp Kz.refl (.bl i)⟩
theorem lC {j:Nat}(q:Q .none):EvD X α (.Constant .none j pos) Q:=λF σ H R m k=>⟨_,cZ,k _ _ H q m.tp Kz.refl .non⟩
theorem xj {x:Str}{j:Nat}(q:Q (.str x)):EvD X α (.Constant (.str x) j pos) Q:=λF σ H R m k=>⟨_,zH9,k _ _ H q m.tp Kz.refl (.str x)⟩
theorem wa {x:Str}{i:Int}(hg:Gl X x)(hm:∃t,X.mg x=some (.int i t))(q:Q (.int i))(hd:(x == ("__debug__":Str))=false:=by decide):EvD X α (.Name x pos) Q:=λF σ H R m k=>by
 obtain⟨t,hm⟩:=hm;exact⟨_,jB hg hm (show RelV (.int i) (.int i t)from⟨t,rfl⟩) hd,k _ _ H q m.tp Kz.refl (.int i)⟩
theorem uI {f:TE->TE->TE}(hf:PE X e (f (uo X a) (uo X b)))(hr:∀σ H R,f (uo X a) (uo X b) σ H R↔uo X a σ H (λx H1=>uo X b σ H1 λy l=>f (tC x) (tC y) σ l R))
  (h:EvD X α a λx=>EvD X α b λy=>∀(F:Fr) (σ:St) (H:Hp) (i g:V) (R:VK),M F α σ H->AV (Gz F α σ H) i x->AV (Gz F α σ H) g y->(∀d v H',Q d->zG F H'->Kz F H H'->AV (Gz F α σ H') v d->R v H')->f (tC i) (tC g) σ H R):
  EvD X α e Q:=λF σ H R m k=>by
 refine⟨_,hf,(hr σ H R).mpr ?_⟩;refine h F σ H _ m λx i H1 w t1 n u=>?_;have m1:=m.kz n t1;refine w F σ H1 _ m1 λy g l o r j t=>?_;exact o F σ l i g R (m1.kz j r) (u.same (j.gz m1.tp)) t λd v H' z t3 A s=>k d v H' z t3 ((n.trans j).trans A) s
theorem AV.int_inv {H:Hp}{v:V}{i:Int}(h:AV H v (.int i)):v=.int i:=by cases h;rfl
theorem AV.bl_inv {H:Hp}{v:V}{i:Bool}(h:AV H v (.bool i)):v=.bl i:=by cases h;rfl
theorem AV.str_inv {H:Hp}{v:V}{i:Str}(h:AV H v (.str i)):v=.str i:=by cases h;rfl
theorem AV.tup_inv {H:Hp}{v:V}{ds:List PyData}(h:AV H v (.tuple ds)):∃a xs,v=.ref a/\H a=some (.tup xs)/\AVs H xs ds:=by cases h;exact⟨_,_,rfl,by assumption,by assumption⟩
theorem AV.lst_inv {H:Hp}{v:V}{ds:List PyData}(h:AV H v (.list ds)):∃a xs,v=.ref a/\H a=some (.lst xs)/\AVs H xs ds:=by cases h;exact⟨_,_,rfl,by assumption,by assumption⟩
theorem AV.non_inv {H:Hp}{v:V}(h:AV H v .none):v=.non:=by cases h;rfl
theorem AV.isnon {H:Hp}{v:V}{d:PyData}(h:AV H v d):decide (v=.non)=(match d with|.none=>true|_=>false):=by cases h<;>simp
theorem zB5 {op:Operator}{C:Int->Int->Prop}{g:Int->Int->V}{gd:Int->Int->PyData}(s:OpR X (binaryOp op) (rI C g))(hg:∀H i j,AV H (g i j) (gd i j))
  (h:EvD X α a λx=>EvD X α b λy=>∃i j,x=.int i/\y=.int j/\C i j/\Q (gd i j)):EvD X α (.BinOp a op b pos) Q:=by
 refine uI (f:=tOp (rI C g)) (ym s zf zf) (λ_ _ _=>Iff.rfl) (h.imp λx h=>h.imp λy d=>?_);obtain⟨i,j,e1,n,r,hq⟩:=d;subst e1 n;intro F σ H u t R m o l k;cases o.int_inv;cases l.int_inv;exact⟨i,j,rfl,rfl,r,k _ _ H hq m.tp Kz.refl (hg _ i j)⟩
theorem jM {op:Operator}{g:Int->Int->V}{gd:Int->Int->PyData}(r:OpR X (binaryOp op) (rI0 g))(hg:∀H i j,AV H (g i j) (gd i j))
  (h:EvD X α a λx=>EvD X α b λy=>∃i j,x=.int i/\y=.int j/\Q (gd i j)):EvD X α (.BinOp a op b pos) Q:=by
 refine uI (f:=tOp (rI0 g)) (ym r zf zf) (λ_ _ _=>Iff.rfl) (h.imp λx h=>h.imp λy d=>?_);obtain⟨i,j,e1,n,hq⟩:=d;subst e1 n;intro F σ H t s R m o l k;cases o.int_inv;cases l.int_inv;exact⟨i,j,rfl,rfl,k _ _ H hq m.tp Kz.refl (hg _ i j)⟩
theorem rz (h:EvD X α a λx=>EvD X α b λy=>∃i j,x=.int i/\y=.int j/\Q (.int (i+j))):EvD X α (.BinOp a .Add b pos) Q:=jM (gd:=λi j=>.int (i+j)) uF (λ_ _ _=>.int _) h
theorem bw (h:EvD X α a λx=>EvD X α b λy=>∃i j,x=.int i/\y=.int j/\Q (.int (i-j))):EvD X α (.BinOp a .Sub b pos) Q:=jM (gd:=λi j=>.int (i-j)) zy0 (λ_ _ _=>.int _) h
theorem zF0 (h:EvD X α a λx=>EvD X α b λy=>∃i j,x=.int i/\y=.int j/\zA0 i j/\Q (.int (i ^ j.toNat))):EvD X α (.BinOp a .Pow b pos) Q:=zB5 (gd:=λi j=>.int (i ^ j.toNat)) aa (λ_ _ _=>.int _) h
theorem pd {i j r:Int}{p1 p2:Pos}{n1 f:Nat}(d:zA0 i j)(hr:i ^ j.toNat=r)(q:Q (.int r)):EvD X α (.BinOp (.Constant (.int i) n1 p1) .Pow (.Constant (.int j) f p2) pos) Q:=
 zF0 (yr (yr ⟨i,j,rfl,rfl,d,hr▸q⟩))
theorem zC6 (h:EvD X α a λx=>∃i,x=.int i/\Q (.int (-i))):EvD X α (.UnaryOp .USub a pos) Q:=λF σ H R m k=>by
 refine⟨_,zr8 eM zf,?_⟩;refine h F σ H _ m λx j H1 g t1 d f=>?_;obtain⟨i,rfl,q⟩:=g;cases f.int_inv;exact⟨i,rfl,k _ _ H1 q t1 d (.int _)⟩
theorem pH {op:CmpOp}{g:Int->Int->Bool}(r:OpR X (compareOp op) (rI0 λi j=>.bl (g i j)))(hm:behindInMarks op b=false)
  (h:EvD X α a λx=>EvD X α b λy=>∃i j,x=.int i/\y=.int j/\Q (.bool (g i j))):EvD X α (.Compare a [op] [b] pos) Q:=by
 refine uI (f:=tOp (rI0 λi j=>.bl (g i j))) (tG r zf zf hm) (λ_ _ _=>Iff.rfl) (h.imp λx h=>h.imp λy d=>?_);obtain⟨i,j,e1,n,hq⟩:=d;subst e1 n;intro F σ H t s R m o l k;cases o.int_inv;cases l.int_inv;exact⟨i,j,rfl,rfl,k _ _ H hq m.tp Kz.refl (.bl _)⟩
theorem zv4 (h:EvD X α a λx=>EvD X α b λy=>∃i j,x=.int i/\y=.int j/\Q (.bool (decide (i<j)))):EvD X α (.Compare a [.Lt] [b] pos) Q:=pH jA (yc _) h
theorem zQ3 (h:EvD X α a λx=>EvD X α b λy=>∃i j,x=.int i/\y=.int j/\Q (.bool (decide (i<=j)))):EvD X α (.Compare a [.LtE] [b] pos) Q:=pH qq (yc _) h
theorem zM9 (h:EvD X α a λx=>EvD X α b λy=>∃i j,x=.int i/\y=.int j/\Q (.bool (decide (j<=i)))):EvD X α (.Compare a [.GtE] [b] pos) Q:=pH zb3 (yc _) h
def wC :PyData->Bool
 |.none=>true
 |_=>false
theorem AV.non_iff {H:Hp}{v:V}{d:PyData}(h:AV H v d):decide (v=.non)=wC d:=by cases h<;>simp[wC]
theorem zG5 {j:Nat}(h:EvD X α a λx=>Q (.bool (wC x))):EvD X α (.Compare a [.Is] [.Constant .none j p] pos) Q:=λF σ H R m k=>by
 refine⟨_,tG aV zf cZ (yc _),?_⟩;refine h F σ H _ m λx i H1 g t1 d f=>⟨rfl,?_⟩;rw[f.non_iff];exact k _ _ H1 g t1 d (.bl _)
theorem nM {op d:CmpOp}{g g':Int->Int->Bool}(u:OpR X (compareOp op) (rI0 λi j=>.bl (g i j)))(n:OpR X (compareOp d) (rI0 λi j=>.bl (g' i j)))(hm:lastMarks [op,d] [b,c]=false)
  (h:EvD X α a λx=>EvD X α b λy=>∃i j,x=.int i/\y=.int j/\(if g i j=true then EvD X α c λz=>∃k,z=.int k/\Q (.bool (g' j k))else Q (.bool false))):EvD X α (.Compare a [op,d] [b,c] pos) Q:=λF σ H R m k=>by
 refine⟨_,za0 u n zf zf zf hm,?_⟩;refine h F σ H _ m λx J H1 t t1 o E=>?_;have m1:=m.kz o t1;refine t F σ H1 _ m1 λy L s B r l D=>?_;obtain⟨i,j,e1,G,hq⟩:=B;subst e1 G;cases E.int_inv;cases D.int_inv;have m2:=m1.kz l r;refine⟨i,j,rfl,rfl,_,rfl,?_⟩;cases hg:g i j with
 |true=>
  rw[hg]at hq;refine rF ?_;refine(by simpa using hq:EvD X α c _) F σ s _ m2 λz K A w t3 v C=>?_;obtain⟨I,rfl,f⟩:=w;cases C.int_inv;exact⟨j,I,rfl,rfl,k _ _ A f t3 ((o.trans l).trans v) (.bl _)⟩
 |false=>
  rw[hg]at hq;exact sH (k _ _ s (by simpa using hq) r (o.trans l) (.bl _))
theorem cH {Q:Bool->Prop}(h:EvD X α e λx=>∃k,x=.bool k/\Q k)(he:∀whole,isTrue e X.env whole=(do let v <-whole;standAt e.pos;holding [v] (truthy v)):=by intro _;rfl):EvT X α e Q:=λF σ H R m k=>by
 refine⟨_,zz5 zf he,?_⟩;refine h F σ H _ m λx i H1 g t1 d f=>?_;obtain⟨b,rfl,q⟩:=g;cases f.bl_inv;exact⟨b,rfl,k b H1 q t1 d⟩
def Cmp (r:R2)(x y:PyData)(k:Bool):Prop:=∀(p:Addr->Prop) (H:Hp) (f d:V) (R:VK),AV (sub p H) f x->AV (sub p H) d y->R (.bl k) H->r f d H R
theorem xA {op:CmpOp}{r:R2}{Q:Bool->Prop}(u:OpR X (compareOp op) r)(hm:behindInMarks op b=false)(h:EvD X α a λx=>EvD X α b λy=>∃k,Cmp r x y k/\Q k):EvT X α (.Compare a [op] [b] pos) Q:=λF σ H R m k=>by
 refine⟨_,vj u zf zf hm,?_⟩;refine h F σ H _ m λx v H1 s t1 f o=>?_;have m1:=m.kz f t1;refine s F σ H1 _ m1 λy j g i l d n=>?_;obtain⟨b,t,q⟩:=i;exact t _ g v j _ (o.same (d.gz m1.tp)) n ⟨b,rfl,k b g q l (f.trans d)⟩
theorem zk9 {g:Int->Int->Bool}{i j:Int}:Cmp (rI0 λi j=>.bl (g i j)) (.int i) (.int j) (g i j):=λp H l k R f d h=>by
 cases f.int_inv;cases d.int_inv;exact⟨i,j,rfl,rfl,h⟩
theorem pX {op:CmpOp}{g:Int->Int->Bool}{Q:Bool->Prop}(k:OpR X (compareOp op) (rI0 λi j=>.bl (g i j)))(hm:behindInMarks op b=false)
  (h:EvD X α a λx=>EvD X α b λy=>∃i j,x=.int i/\y=.int j/\Q (g i j)):EvT X α (.Compare a [op] [b] pos) Q:=
 xA k hm (h.imp λx h=>h.imp λy d=>by obtain⟨i,j,e1,f,q⟩:=d;exact⟨_,by subst e1 f;exact zk9,q⟩)
theorem zM2 {Q:Bool->Prop}(h:EvD X α a λx=>EvD X α b λy=>∃i j,x=.int i/\y=.int j/\Q (decide (i<j))):EvT X α (.Compare a [.Lt] [b] pos) Q:=pX jA (yc _) h
theorem zp5 {Q:Bool->Prop}(h:EvD X α a λx=>EvD X α b λy=>∃i j,x=.int i/\y=.int j/\Q (decide (j<i))):EvT X α (.Compare a [.Gt] [b] pos) Q:=pX jv (yc _) h
theorem zJ6 {Q:Bool->Prop}(h:EvD X α a λx=>EvD X α b λy=>∃i j,x=.int i/\y=.int j/\Q (decide (j<=i))):EvT X α (.Compare a [.GtE] [b] pos) Q:=pX zb3 (yc _) h
theorem vb {j:Nat}{Q:Bool->Prop}(h:EvD X α a λx=>Q (wC x)):EvT X α (.Compare a [.Is] [.Constant .none j p] pos) Q:=
 xA aV (yc _) (h.imp λx h=>lC ⟨_,λp H i g R f d z=>⟨d.non_inv,by rw[f.non_iff];exact z⟩,h⟩)
theorem zo2 {j:Nat}{Q:Bool->Prop}(h:EvD X α a λx=>Q (!wC x)):EvT X α (.Compare a [.IsNot] [.Constant .none j p] pos) Q:=
 xA zh7 (yc _) (h.imp λx h=>lC ⟨_,λp H i g R f d z=>⟨d.non_inv,by rw[f.non_iff];exact z⟩,h⟩)
def zT7 :PyData->Option Bool
 |.none=>some false
 |.bool b=>some b
 |.int i=>some (i != 0)
 |.list ds=>some (!ds.isEmpty)
 |.tuple ds=>some (!ds.isEmpty)
 |_=>none
theorem AVs.isEmpty {H:Hp}{xs:List V}{ds:List PyData}(h:AVs H xs ds):xs.isEmpty=ds.isEmpty:=by cases h<;>rfl
theorem sV {Q:Bool->Prop}(h:EvD X α e λx=>∃k,zT7 x=some k/\Q k)(he:∀whole,isTrue e X.env whole=(do let v <-whole;standAt e.pos;holding [v] (truthy v)):=by intro _;rfl):EvT X α e Q:=λF σ H R m k=>by
 refine⟨_,cj zf he,?_⟩;refine h F σ H _ m λx j H1 d t1 f g=>?_;obtain⟨b,hb,q⟩:=d;refine⟨b,?_,k b H1 q t1 f⟩;cases g with
 |non=>cases hb;rfl
 |bl z=>cases hb;rfl
 |int i=>cases hb;rfl
 |str s=>cases hb
 |lst h1 h2=>cases hb;exact .inl ⟨_,SqL.of (zc h1).2,by rw[h2.isEmpty]⟩
 |tup h1 h2=>cases hb;exact .inr (.inl ⟨_,SqT.of (zc h1).2,by rw[h2.isEmpty]⟩)
 |ins _ _=>cases hb
 |dk _ _=>cases hb
 |dt _ _=>cases hb
 |xc _ _ _=>cases hb
 |xn _=>cases hb
theorem pf {Q:Bool->Prop}(h:EvT X α a λk=>Q (!k)):EvT X α (.UnaryOp .Not a pos) Q:=λF σ H R m k=>by
 refine⟨_,zx6 xp,?_⟩;exact h F σ H _ m λb H1 f t1 d=>k _ H1 f t1 d
def EvW (X:Cx)(α:Ev)(e:Expr)(Q:Bool->Prop):Prop:=∀(F:Fr) (σ:St) (H:Hp) (R:Bool->Hp->Prop),M F α σ H->(∀b H',Q b->zG F H'->Kz F H H'->R b H')->∃t,PW X e t/\t σ H R
def zW7 (X:Cx)(e:Expr):TT:=λσ H Q=>∃t,PW X e t/\t σ H Q
theorem jx :PW X e (zW7 X e):=λw pins s σ H Q I d=>by obtain⟨t,p,q⟩:=d;exact p w pins s σ H Q I q
theorem EvW.t {Q:Bool->Prop}(h:EvW X α e Q):EvT X α e Q:=λF σ H R m k=>by
 obtain⟨t,p,q⟩:=h F σ H R m k;exact⟨t,p.pt,q⟩
variable {rest:List Expr}
theorem oi {Q:Bool->Prop}(h:EvT X α a Q):EvW X α (.BoolOp .And [a] pos) Q:=λF σ H R m k=>⟨_,jr xp,h F σ H R m k⟩
theorem zE7 {Q:Bool->Prop}(h:EvT X α a Q):EvW X α (.BoolOp .Or [a] pos) Q:=λF σ H R m k=>⟨_,zA5 xp,h F σ H R m k⟩
theorem cU {Q:Bool->Prop}(h:EvT X α a λk=>if k=true then EvW X α (.BoolOp .And (b::rest) pos) Q else Q false):EvW X α (.BoolOp .And (a::b::rest) pos) Q:=λF σ H R m k=>by
 refine⟨_,bK xp jx,?_⟩;refine h F σ H _ m λc H1 f t1 d=>?_;cases c with
 |true=>exact rF ((by simpa using f:EvW X α _ Q) F σ H1 R (m.kz d t1) λb l g i j=>k b l g i (d.trans j))
 |false=>exact sH (k _ H1 (by simpa using f) t1 d)
theorem zI5 {Q:Bool->Prop}(h:EvT X α a λk=>if k=true then Q true else EvW X α (.BoolOp .Or (b::rest) pos) Q):EvW X α (.BoolOp .Or (a::b::rest) pos) Q:=λF σ H R m k=>by
 refine⟨_,zK2 xp jx,?_⟩;refine h F σ H _ m λc H1 f t1 d=>?_;cases c with
 |false=>exact sH ((by simpa using f:EvW X α _ Q) F σ H1 R (m.kz d t1) λb l g i j=>k b l g i (d.trans j))
 |true=>exact rF (k _ H1 (by simpa using f) t1 d)
theorem lq {op}(h:EvD X α a Q):EvD X α (.BoolOp op [a] pos) Q:=λF σ H R m k=>⟨_,zI0 zf,h F σ H R m k⟩
theorem zG1 (h:EvD X α a λx=>∃k,x=.bool k/\if k=true then EvD X α (.BoolOp .And (b::rest) pos) Q else Q (.bool false)):EvD X α (.BoolOp .And (a::b::rest) pos) Q:=λF σ H R m k=>by
 refine⟨_,zH0 zf zf,?_⟩;refine h F σ H _ m λx s H1 f t1 g o=>?_;obtain⟨c,rfl,f⟩:=f;cases o.bl_inv;refine⟨c,rfl,?_⟩;cases c with
 |true=>exact rF ((by simpa using f:EvD X α _ Q) F σ H1 R (m.kz g t1) λd v r i j n l=>k d v r i j (g.trans n) l)
 |false=>exact sH (k _ _ H1 (by simpa using f) t1 g (.bl _))
theorem zK0 (h:EvD X α a λx=>∃k,x=.bool k/\if k=true then Q (.bool true)else EvD X α (.BoolOp .Or (b::rest) pos) Q):EvD X α (.BoolOp .Or (a::b::rest) pos) Q:=λF σ H R m k=>by
 refine⟨_,zL2 zf zf,?_⟩;refine h F σ H _ m λx s H1 f t1 g o=>?_;obtain⟨c,rfl,f⟩:=f;cases o.bl_inv;refine⟨c,rfl,?_⟩;cases c with
 |false=>exact sH ((by simpa using f:EvD X α _ Q) F σ H1 R (m.kz g t1) λd v r i j n l=>k d v r i j (g.trans n) l)
 |true=>exact rF (k _ _ H1 (by simpa using f) t1 g (.bl _))
theorem zb8 (h:EvD X α a λx=>∃k,x=.bool k/\Q (.bool (!k))):EvD X α (.UnaryOp .Not a pos) Q:=λF σ H R m k=>by
 refine⟨_,zE9 zf,?_⟩;refine h F σ H _ m λx i H1 g t1 d f=>?_;obtain⟨c,rfl,q⟩:=g;cases f.bl_inv;exact⟨c,rfl,k _ _ H1 q t1 d (.bl _)⟩
theorem lI (h:EvT X α c λk=>if k=true then EvD X α a Q else EvD X α b Q):EvD X α (.IfExp c a b pos) Q:=λF σ H R m k=>by
 refine⟨_,cE xp zf zf,?_⟩;refine h F σ H _ m λx H1 o t1 f=>?_;cases x with
 |true=>exact rF ((by simpa using o:EvD X α _ Q) F σ H1 R (m.kz f t1) λd v n g i l j=>k d v n g i (f.trans l) j)
 |false=>exact sH ((by simpa using o:EvD X α _ Q) F σ H1 R (m.kz f t1) λd v n g i l j=>k d v n g i (f.trans l) j)
theorem xP (s:tE b)(h:EvD X α a λx=>EvD X α b λy=>∃ds i d,x=.tuple ds/\y=.int i/\atI ds i=some d/\Q d):EvD X α (.Subscript a b pos) Q:=by
 refine uI (f:=tOp (zE6 X.K)) (yx zb9 zf zf s) (λ_ _ _=>Iff.rfl) (h.imp λx h=>h.imp λy g=>?_);obtain⟨ds,i,d,e1,o,j,hq⟩:=g;subst e1 o;intro F σ H u t R m r l k;obtain⟨a,xs,rfl,h1,h2⟩:=r.tup_inv;cases l.int_inv;obtain⟨v,n,av⟩:=h2.atI j;exact⟨a,xs,i,v,rfl,rfl,SqT.of (zc h1).2,n,k d v H hq m.tp Kz.refl av⟩
def EvO (X:Cx)(α:Ev)(e:Option Expr)(Q:Option Int->Prop):Prop:=∀(F:Fr) (σ:St) (H:Hp) (R:Option Int->Hp->Prop),M F α σ H->(∀i H',Q i->zG F H'->Kz F H H'->R i H')->∃t,PO X e t/\t σ H R
def zW4 (X:Cx)(e:Option Expr):TO:=λσ H Q=>∃t,PO X e t/\t σ H Q
theorem jQ {e:Option Expr}:PO X e (zW4 X e):=λpins s σ H Q I d=>by obtain⟨t,p,q⟩:=d;exact p pins s σ H Q I q
theorem jZ {Q:Option Int->Prop}(q:Q none):EvO X α none Q:=λF σ H R m k=>⟨_,qV,k _ H q m.tp Kz.refl⟩
theorem jn {Q:Option Int->Prop}(h:EvD X α a λx=>∃i,x=.int i/\Q (some i)):EvO X α (some a) Q:=λF σ H R m k=>by
 refine⟨_,pA zf,?_⟩;refine h F σ H _ m λx j H1 g t1 d f=>?_;obtain⟨i,rfl,q⟩:=g;cases f.int_inv;exact⟨i,rfl,k _ H1 q t1 d⟩
theorem M.lay {F:Fr}{σ:St}{H:Hp}{l:Addr}{xs:List V}{ds:List PyData}(m:M F α σ H)(d:H l=none)(h:AVs (Gz F α σ H) xs ds):zG F (upd H l (.lst xs))/\Kz F H (upd H l (.lst xs))/\yL F α σ H (.ref l) (upd H l (.lst xs)) ds:=by
 refine⟨m.tp.same (ye d),Kz.of_same (ye d),l,xs,rfl,d,zi,h.same (zq λa o ha e=>?_)⟩;have:=zj e d;exact⟨⟨ha,this⟩,by rw[zb this];exact e⟩
theorem dJ {lo hi:Option Expr}{Q:List PyData->Prop}(h:EvD X α a λx=>EvO X α lo λl=>EvO X α hi λu=>∃ds,x=.list ds/\Q (cutD ds l u)):EvL X α (.Subscript a (.Slice lo hi none p) pos) Q:=λF σ H R m k=>by
 refine⟨_,sC pI zf jQ jQ,?_⟩;refine h F σ H _ m λx E H1 w t1 n D=>?_;have m1:=m.kz n t1;refine w F σ H1 _ m1 λl y B t d=>?_;have m2:=m1.kz d t;refine B F σ y _ m2 λu G A t3 g=>?_;have m3:=m2.kz g t3;obtain⟨ds,rfl,q⟩:=A;obtain⟨a,xs,rfl,h1,h2⟩:=(D.same ((d.gz m1.tp).trans (g.gz m2.tp))).lst_inv;refine⟨a,xs,rfl,SqL.of (zc h1).2,λp s=>?_⟩;obtain⟨g1,g2,g3⟩:=m3.lay s (h2.cut l u);have r:=(n.trans d).trans g;obtain⟨j,f,e1,i,C,v⟩:=g3;refine k _ _ _ q g1 (r.trans g2) ⟨j,f,e1,?_,C,v⟩;cases z:H j with
 |none=>rfl
 |some o=>rw[r j o z (m.tp.nt (ow0 (m3.fresh i)))]at i;cases i
theorem yL.back {F:Fr}{σ:St}{H H1 H':Hp}{v:V}{ds:List PyData}(m:M F α σ H)(k:Kz F H H1)(t1:zG F H1)(h:yL F α σ H1 v H' ds):yL F α σ H v H' ds:=by
 obtain⟨g,f,e1,d,j,i⟩:=h;refine⟨g,f,e1,?_,j,i⟩;cases z:H g with
 |none=>rfl
 |some o=>rw[k g o z (m.tp.nt (ow0 ((m.kz k t1).fresh d)))]at d;cases d
theorem zx {Q:List A->Prop}(q:Q []):EvA X α [] Q:=λF σ H R m k=>⟨_,zD,k _ _ H q m.tp Kz.refl .nil⟩
theorem zm {Q:List A->Prop}(h:EvD X α e λd=>EvA X α es λas=>Q (.dat d::as))(n:starEach (e::es) X.env=(false,eval e X.env)::starEach es X.env:=by rfl):EvA X α (e::es) Q:=λF σ H R m k=>by
 refine⟨_,zr zf yA n,?_⟩;refine h F σ H _ m λd v H1 r t1 g o=>?_;have m1:=m.kz g t1;exact r F σ H1 _ m1 λas vs s i j f l=>k _ _ s i j (g.trans f) (.cons (o.same (f.gz m1.tp)) l)
theorem pT {Q:List A->Prop}(i:Nat){x:Str}(hi:α[i]?=some (some .tape))(h:EvA X α es λas=>Q (.tape::as))(g:X.N[i]?=some x:=by rfl)(f:Vis X.env.scope x:=by first|exact Or.inl rfl|exact Or.inr (Or.inl rfl)|exact Or.inr (Or.inr rfl))
  (hd:(x == ("__debug__":Str))=false:=by decide) (d:(x == ("__classdict__":Str))=false:=by decide) (s:starEach (.Name x pos::es) X.env=(false,eval (.Name x pos) X.env)::starEach es X.env:=by rfl):EvA X α (.Name x pos::es) Q:=λF σ H R m k=>by
 obtain⟨t,b,c,h1,h2⟩:=m.tvar i hi;refine⟨_,zr (xg g f hd d) yA s,.ref t,h2,?_⟩;exact h F σ H _ m λas vs r j l o n=>k _ _ r j l o (.cons ⟨t,b,c,h1,rfl⟩ n)
def datas :List A->Option (List PyData)
 |[]=>some []
 |.dat d::r=>(datas r).map (d::·)
 |_::_=>none
theorem yp.datas {F:Fr}{G:Hp}{vs:List V}{as:List A}{ds:List PyData}(h:yp F G vs as)(e:L2.datas as=some ds):AVs G vs ds:=by
 induction h generalizing ds with
 |nil=>cases e;exact .nil
 |@cons _ _ a as h _ ih=>
  cases a with
  |dat d=>
   obtain⟨es,e1,rfl⟩:=zZ4.mp e;exact .cons h (ih e1)
  |tape=>cases e
  |_=>exact h.elim
theorem mM {n:Nat}(h:EvA X α es λas=>∃ds,datas as=some ds/\ds.length<=1000/\Q (.tuple ds)):EvD X α (.Tuple es n pos) Q:=λF σ H R m k=>by
 refine⟨_,lu yA,?_⟩;refine h F σ H _ m λas vs H1 j t1 f i=>?_;obtain⟨ds,e,g,q⟩:=j;have r:=i.datas e;have m1:=m.kz f t1;refine⟨by rw[r.length];exact z30 (yw g),λp d=>?_⟩;refine k _ _ _ q (t1.same (ye d)) (f.trans (Kz.of_same (ye d))) (.tup (xs:=vs) (zA (m1.fresh d) zi) (r.same (zq λa o ha e=>⟨ha,by rw[zb (zj e d)];exact e⟩)))
theorem wI {Q:List PyData->Prop}(h:EvA X α es λas=>∃ds,datas as=some ds/\ds.length<=1000/\Q ds):EvL X α (.List es pos) Q:=λF σ H R m k=>by
 refine⟨_,zc1 yA,?_⟩;refine h F σ H _ m λas vs H1 j t1 d i=>?_;obtain⟨ds,e,g,q⟩:=j;have r:=i.datas e;have m1:=m.kz d t1;refine⟨by rw[r.length];exact z30 (yw g),λp f=>?_⟩;obtain⟨g1,g2,g3⟩:=m1.lay f r;exact k _ _ _ q g1 (d.trans g2) (g3.back m d t1)
theorem va {Q:List PyData->Prop}(h:EvD X α a λx=>EvD X α b λy=>∃ds es,x=.list ds/\y=.list es/\ds.length+es.length<=1000/\Q (ds++es)):EvL X α (.BinOp a .Add b pos) Q:=λF σ H R m k=>by
 refine⟨_,ym zH8 zf zf,?_⟩;refine h F σ H _ m λx u H1 n t1 f s=>?_;have m1:=m.kz f t1;refine n F σ H1 _ m1 λy v t o g d r=>?_;have m2:=m1.kz d g;obtain⟨ds,es,rfl,rfl,l,q⟩:=o;obtain⟨a,xs,rfl,h1,h2⟩:=(s.same (d.gz m1.tp)).lst_inv;obtain⟨b,ys,rfl,h3,i⟩:=r.lst_inv;refine⟨a,b,xs,ys,rfl,rfl,(zc h1).2,(zc h3).2,by rw[h2.length,i.length];exact z30 (yw l),λp j=>?_⟩;obtain⟨g1,g2,g3⟩:=m2.lay j (h2.append i);exact k _ _ _ q g1 ((f.trans d).trans g2) (g3.back m (f.trans d) g)
theorem xD {id:String}{x:Str}{r:List V->Hp->VK->Prop}(u:yE X (.builtin id) r)(hg:Gl X x)(hm:X.mg x=none)(i:bootBuiltins x=some (.builtin id))
  (h:EvA X α (e::es) λas=>∀(F:Fr) (σ:St) (H:Hp) (vs:List V) (R:VK),M F α σ H->yp F (Gz F α σ H) vs as->(∀d v H',Q d->zG F H'->Kz F H H'->AV (Gz F α σ H') v d->R v H')->r vs H R)
  (hn:x≠"__name__":=by decide) (f:(x == ("__debug__":Str))=false:=by decide) (he:starEach (e::es) X.env=(false,eval e X.env)::starEach es X.env:=by rfl) (hpl:(backTo pos (starEach es X.env)).any (·.1)=false:=by rfl):
  EvD X α (.Call (.Name x p) (e::es) [] pos) Q:=λF σ H R m k=>by
 refine⟨_,yY u hg hm i yA hn f he hpl,?_⟩;refine h F σ H _ m λas vs H1 s t1 g o=>?_;exact s F σ H1 vs R (m.kz g t1) o λd v H' t j n l=>k d v H' t j (g.trans n) l
end
section
variable {X:Cx}{α:Ev}{e a b c:Expr}{es:List Expr}{pos p q:Pos}{Q:PyData->Prop}
theorem yp.one {F:Fr}{G:Hp}{vs:List V}{d:PyData}(h:yp F G vs [.dat d]):∃v,vs=[v]/\AV G v d:=by
 cases h with|cons h r=>cases r;exact⟨_,rfl,h⟩
def zU9 :PyData->Option Int
 |.list ds=>some ds.length
 |.tuple ds=>some ds.length
 |_=>none
theorem pY (hg:Gl X "len")(hm:X.mg "len"=none)(h:EvD X α e λx=>∃n,zU9 x=some n/\Q (.int n))(he:starEach [e] X.env=(false,eval e X.env)::starEach [] X.env:=by rfl):
  EvD X α (.Call (.Name "len" p) [e] [] pos) Q:=by
 refine xD yH hg hm yd4 (zm (h.imp λx d=>?_) he) (he:=he);obtain⟨n,e1,q⟩:=d;refine zx ?_;intro F σ H vs R m f k;obtain⟨v,rfl,av⟩:=f.one;cases av with
 |lst h1 h2=>cases e1;rw[<-h2.length]at q;exact⟨_,_,rfl,.inl (SqL.of (zc h1).2),k _ _ H q m.tp Kz.refl (.int _)⟩
 |tup h1 h2=>cases e1;rw[<-h2.length]at q;exact⟨_,_,rfl,.inr (SqT.of (zc h1).2),k _ _ H q m.tp Kz.refl (.int _)⟩
 |_=>cases e1
theorem sR {T:String}{x:Str}{p1:Pos}(hg:Gl X "isinstance")(hm:X.mg "isinstance"=none)(g:Gl X x)(f:X.mg x=none)(l:bootBuiltins x=some (.type T))
  (h:EvD X α a λx=>∃k,x.hasDict=false/\zl7 T x=some k/\Q (.bool k)) (d:x≠"__name__":=by decide) (hdx:(x == ("__debug__":Str))=false:=by decide)
  (he:starEach [a,.Name x p1] X.env=(false,eval a X.env)::starEach [.Name x p1] X.env:=by rfl) (i:starEach [.Name x p1] X.env=(false,eval (.Name x p1) X.env)::starEach [] X.env:=by rfl) (hpl:(backTo pos (starEach [.Name x p1] X.env)).any (·.1)=false:=by rfl):
  EvD X α (.Call (.Name "isinstance" p) [a,.Name x p1] [] pos) Q:=λF σ H R m k=>by
 refine⟨_,yY fB hg hm boot_isinstance (zr zf (zr (zo5 g f l (show RelV (.ty T) (.type T)from rfl) d hdx) zD i) he) (he:=he) (hpl:=hpl),?_⟩;refine h F σ H _ m λx r H1 o t1 j n=>?_;obtain⟨b,hd,e,q⟩:=o;exact⟨r,T,x,b,rfl,(n.dv hd).same xy,e,k _ _ H1 q t1 j (.bl b)⟩
def wt :PyData->Option (List PyData)
 |.list ds=>some ds
 |.tuple ds=>some ds
 |_=>none
theorem kQ {Q:List PyData->Prop}(hg:Gl X "list")(hm:X.mg "list"=none)(h:EvD X α e λx=>∃ds,wt x=some ds/\Q ds)(he:starEach [e] X.env=(false,eval e X.env)::starEach [] X.env:=by rfl):
  EvL X α (.Call (.Name "list" p) [e] [] pos) Q:=λF σ H R m k=>by
 refine⟨_,yF uf hg hm boot_list (zr zf zD he) (he:=he),?_⟩;refine h F σ H _ m λx j H1 i t1 d g=>?_;obtain⟨ds,e1,q⟩:=i;have m1:=m.kz d t1;have fin:∀{xs:List V},AVs (Gz F α σ H1) xs ds->∀l,H1 l=none->R (.ref l) (upd H1 l (.lst xs)):=λ{xs} h2 l f=>by
  obtain⟨g1,g2,g3⟩:=m1.lay f h2;exact k _ _ _ q g1 (d.trans g2) (g3.back m d t1)
 cases g with
 |lst h1 h2=>cases e1;exact⟨_,_,rfl,.inl (SqL.of (zc h1).2),fin h2⟩
 |tup h1 h2=>cases e1;exact⟨_,_,rfl,.inr (SqT.of (zc h1).2),fin h2⟩
 |_=>cases e1
theorem AVs.bools {H:Hp}{xs:List V}{bs:List Bool}(h:AVs H xs (bs.map .bool)):xs=bs.map V.bl:=by
 induction bs generalizing xs with
 |nil=>cases h;rfl
 |cons n ns d=>cases h with
  |cons h f=>rw[zZ2,d f,h.bl_inv]
theorem sM (g:X.calm=true)(hg:Gl X "all")(hm:X.mg "all"=none)(h:EvD X α e λx=>∃bs:List Bool,x=.list (bs.map .bool)/\Q (.bool (bs.all id)))(he:starEach [e] X.env=(false,eval e X.env)::starEach [] X.env:=by rfl):
  EvD X α (.Call (.Name "all" p) [e] [] pos) Q:=by
 refine xD (gf g) hg hm boot_all (zm (h.imp λx d=>?_) he) (he:=he);obtain⟨bs,e1,q⟩:=d;refine zx ?_;intro F σ H vs R m f k;subst e1;obtain⟨v,rfl,av⟩:=f.one;obtain⟨a,xs,rfl,h1,h2⟩:=av.lst_inv;exact⟨a,bs,rfl,by rw[(zc h1).2,h2.bools],k _ _ H q m.tp Kz.refl (.bl _)⟩
theorem cy (g:X.calm=true)(hg:Gl X "any")(hm:X.mg "any"=none)(h:EvD X α e λx=>∃bs:List Bool,x=.list (bs.map .bool)/\Q (.bool (bs.any id)))(he:starEach [e] X.env=(false,eval e X.env)::starEach [] X.env:=by rfl):
  EvD X α (.Call (.Name "any" p) [e] [] pos) Q:=by
 refine xD (fY g) hg hm boot_any (zm (h.imp λx d=>?_) he) (he:=he);obtain⟨bs,e1,q⟩:=d;refine zx ?_;intro F σ H vs R m f k;subst e1;obtain⟨v,rfl,av⟩:=f.one;obtain⟨a,xs,rfl,h1,h2⟩:=av.lst_inv;exact⟨a,bs,rfl,by rw[(zc h1).2,h2.bools],k _ _ H q m.tp Kz.refl (.bl _)⟩
theorem pD (f:X.A.guards=some [])(g:X.A.units+64<cLine)(hg:Gl X "repr")(hm:X.mg "repr"=none)(h:EvD X α e λx=>zZ sizeLine x/\Q (.str x.shown))(he:starEach [e] X.env=(false,eval e X.env)::starEach [] X.env:=by rfl):
  EvD X α (.Call (.Name "repr" p) [e] [] pos) Q:=by
 refine xD (fc f g) hg hm boot_repr (zm (h.imp λx d=>?_) he) (he:=he);obtain⟨n,q⟩:=d;refine zx ?_;intro F σ H vs R m i k;obtain⟨v,rfl,av⟩:=i.one;exact⟨v,x,rfl,(av.dv n.nod).same xy,n,k _ _ H q m.tp Kz.refl (.str _)⟩
section
variable {k:Nat}{f:Addr}{fd:FuncData}{ps:List Str}{φ:List A->(A->Prop)->Prop}{x:Str}
theorem xw {F:Fr}{σ:St}{H:Hp}{vs:List V}{as:List A}{g:A->Prop}{R:VK}(m:M F α σ H)(h:yp F (Gz F α σ H) vs as)(d:φ as g)
  (i:∀a v H',g a->tf ⟨H,Ow F α σ,F.tp⟩ v H' a->R v H') {E:XK}:spA φ (vs++[]) H R E:=by
 refine⟨⟨H,Ow F α σ,F.tp⟩,as,g,rfl,?_,?_,?_,d,i⟩
 ·exact m.tp.to rfl λ_ z=>.inl z
 ·exact λy z=>m.owEx z
 ·rw[z39];exact yp.to (F:=F) (F':=⟨H,Ow F α σ,F.tp⟩) (λ_ _ e=>e) rfl h
theorem tf.back {F:Fr}{σ:St}{H H':Hp}{v:V}{a:A}(m:M F α σ H)(h:tf ⟨H,Ow F α σ,F.tp⟩ v H' a):zG F H'/\Kz F H H'/\AV (Gz F α σ H') v a.d:=by
 obtain⟨t,kz,r⟩:=h;refine⟨m.tp.re t rfl,kz,?_⟩;cases a with
 |dat d=>exact r
 |ow c=>
  obtain⟨l,xs,ds,rfl,rfl,h1,h2,h3,j⟩:=r;exact .lst (zA h2 h3) (j.same (zq λa o h e=>⟨h.1,e⟩))
 |deep d S=>
  obtain⟨h1,h2⟩:=r;refine h1.same λx o e=>?_;rcases cP e with⟨n,g⟩|⟨_,g⟩
  ·exact zA (h2 x n).1 g
  ·exact g
 |tape=>exact r.elim
 |«at» _=>exact r.elim
 |exc _ _=>exact r.elim
 |pin _ _ _=>exact r.elim
 |nst l ls dss=>
  obtain⟨rfl,h2,h3,j,i⟩:=r;exact .lst (zA (i l zX9).1 h2) (h3.avs (zq λa o h e=>⟨h.1,e⟩) λa ha=>(i a (zX8 _ ha)).1)
theorem ze6 (G:yC X.prog X.w X.K X.mg X.base CX0 k f fd ps (spA φ))(hr:zM k X.A)(hg:Gl X x)(hm:X.mg x=some (.ref f))(hk:PySem.W.keepIn X.K (.ref f)=true)(hb:Binds X.K fd ps [])
  (h:EvA X α (e::es) λas=>φ as λa=>Q a.d) (g:(x == ("__debug__":Str))=false:=by decide) (he:starEach (e::es) X.env=(false,eval e X.env)::starEach es X.env:=by rfl) (hpl:(backTo pos (starEach es X.env)).any (·.1)=false:=by rfl):
  EvD X α (.Call (.Name x p) (e::es) [] pos) Q:=λF σ H R m n=>by
 refine⟨_,pC G hr hg hm hk hb .nil rL yA g he hpl,?_⟩;refine h F σ H _ m λas vs H1 r t1 i o=>?_;have m1:=m.kz i t1;refine xw m1 o r λa v H' l j=>?_;obtain⟨g1,g2,g3⟩:=j.back m1;exact n _ v H' l g1 (i.trans g2) g3
theorem zd7 {Q:List PyData->Prop}(G:yC X.prog X.w X.K X.mg X.base CX0 k f fd ps (spA φ))(hr:zM k X.A)(hg:Gl X x)(hm:X.mg x=some (.ref f))(hk:PySem.W.keepIn X.K (.ref f)=true)(hb:Binds X.K fd ps [])
  (h:EvA X α (e::es) λas=>φ as λa=>∃ds,a=.own ds/\Q ds) (d:(x == ("__debug__":Str))=false:=by decide) (he:starEach (e::es) X.env=(false,eval e X.env)::starEach es X.env:=by rfl) (hpl:(backTo pos (starEach es X.env)).any (·.1)=false:=by rfl):
  EvL X α (.Call (.Name x p) (e::es) [] pos) Q:=λF σ H R m u=>by
 refine⟨_,pC G hr hg hm hk hb .nil rL yA d he hpl,?_⟩;refine h F σ H _ m λas vs H1 n t1 g s=>?_;have m1:=m.kz g t1;refine xw m1 s n λa v H' r i=>?_;obtain⟨ds,rfl,q⟩:=r;obtain⟨g1,g2,_⟩:=i.back m1;obtain⟨_,_,l,xs,o,rfl,t,h1,h2,h3,j⟩:=i;cases t;exact u ds _ H' q g1 (g.trans g2) (yL.back m g t1 ⟨l,xs,rfl,h1,h3,j⟩)
end
theorem su {i j:Nat}{x:Option A}(h:i≠j):(α.set i x)[j]?=α[j]?:=z33 h
theorem zL {i:Nat}{x:Option A}{j:Nat}{y:Option A}(h:(α.set i x)[j]?=some y):(i=j/\x=y)\/(i≠j/\α[j]?=some y):=by
 by_cases d:i=j
 ·subst d;left;have f:i<α.length:=by
   have:=(zX5.mp h).1
   rwa [z48]at this
  rw[z75 f]at h;exact⟨rfl,z00 h⟩
 ·right;rw[z33 d]at h;exact⟨d,h⟩
theorem M.put {F:Fr}{σ:St}{H:Hp}{i:Nat}{b:Option A}(m:M F α σ H)(hf:∀s c x,σ[i]?=some s->b=some c->foot s c x->∃a,α[i]?=some (some a)/\foot s a x)
  (hok:∀s c,i<α.length->σ[i]?=some s->b=some c->vC (Gz F (α.set i b) σ H) F H s c) (E:∀c,b=some c->noX c:=by intro c z;cases z;trivial):zz (Gz F α σ H) (Gz F (α.set i b) σ H)/\M F (α.set i b) σ H:=by
 have w:zz (Gz F α σ H) (Gz F (α.set i b) σ H):=zq λa o h e=>⟨λz=>h (by
  rcases z with z|⟨j,c,s,e1,n,f⟩
  ·exact .inl z
  ·rcases zL e1 with⟨rfl,z⟩|⟨v,g⟩
   ·obtain⟨u,h1,h2⟩:=hf s c a n z f;exact .inr ⟨i,u,s,h1,n,h2⟩
   ·exact .inr ⟨j,c,s,g,n,f⟩),e⟩
 have old:∀{j:Nat} {c:A} {s:Option V} {x:Addr},(α.set i b)[j]?=some (some c)->σ[j]?=some s->foot s c x->∃a,α[j]?=some (some a)/\foot s a x:=λ{j c s x} e1 n f=>by
  rcases zL e1 with⟨rfl,z⟩|⟨v,g⟩
  ·exact hf s c x n z f
  ·exact⟨c,g,f⟩
 refine⟨w,by rw[z48];exact m.len,λj c s e1 n=>?_,λj k c d s t x e1 n h1 h2 f1 f2=>?_,λj r q e D c s x e1 n f=>?_,m.tp,m.keep,m.oex⟩
 ·rcases zL e1 with⟨rfl,z⟩|⟨v,g⟩
  ·refine hok s c ?_ n z;have:=(zX5.mp e1).1
   rwa [z48]at this
  ·exact(m.ok j c s g n).stay w (λx o f e=>⟨e,(m.ft g n f).1,(m.ft g n f).2.1⟩) rfl λ_ _ _ l=>l
 ·obtain⟨u,g1,g2⟩:=old e1 h1 f1;obtain⟨C,g3,B⟩:=old n h2 f2;exact m.dj j k u C s t x g1 g3 h1 h2 g2 B
 ·obtain⟨u,g1,g2⟩:=old e1 n f;rcases zL e with⟨rfl,z⟩|⟨_,y⟩
  ·exact(E _ z).elim
  ·exact m.xd j r q y D u s x g1 n g2
theorem M.gave {F:Fr}{σ:St}{H:Hp}{i:Nat}{a:A}{s:Option V}{b:Option A}{x:Addr}(m:M F α σ H)(e1:α[i]?=some (some a))(h:σ[i]?=some s)(f:foot s a x)(hb:∀c,b=some c->¬foot s c x):¬Ow F (α.set i b) σ x:=by
 rintro(z|⟨j,c,t,h1,h2,g⟩)
 ·exact(m.ft e1 h f).1 z
 ·rcases zL h1 with⟨rfl,z⟩|⟨k,d⟩
  ·rw[h]at h2;cases h2;exact hb c z g
  ·exact k (m.dj i j a c s t x e1 d h h2 f g)
theorem aS {F:Fr}{σ:St}{H:Hp}{i:Nat}{b:A}(hb:∀s x,¬foot s b x):zz (Gz F α σ H) (Gz F (α.set i (some b)) σ H):=zq λa o h e=>⟨λz=>h (by
 rcases z with z|⟨j,c,s,e1,g,f⟩
 ·exact .inl z
 ·rcases zL e1 with⟨rfl,z⟩|⟨k,d⟩
  ·cases z;exact(hb _ _ f).elim
  ·exact .inr ⟨j,c,s,d,g,f⟩),e⟩
theorem M.frz {F:Fr}{σ:St}{H:Hp}{i:Nat}{ds:List PyData}(m:M F α σ H)(hi:α[i]?=some (some (.own ds))):M F (α.set i (some (.dat (.list ds)))) σ H:=
 (m.put (b:=some (.dat (.list ds))) (λs c' x _ z f=>by cases z;exact f.elim) λs c' _ d z=>by
  cases z;obtain⟨l,o,h1,h2,h3,h,g⟩:=m.owc i _ hi;rw[h1]at d;cases d;exact⟨.ref l,rfl,(h3.same (aS (b:=.dat (.list ds)) λ_ _ f=>f)).av (zA (m.gave hi h1 rfl λc z=>by cases z;exact id) h2)⟩).2
theorem zC2 {F:Fr}{σ:St}{H H':Hp}{i:Nat}{a:A}{b:Option A}(m:M F α σ H)(k:Kz F H H')(hi:α[i]?=some (some a))(x:Addr)(o:HO)(l:¬Ob o)(h:Gz F (α.set i b) σ H' x=some o):Gz F α σ H' x=some o:=by
 obtain⟨h1,h2⟩:=zc h;refine zA ?_ h2;rintro(z|⟨j,c,s,e1,g,f⟩)
 ·exact h1 (.inl z)
 ·by_cases d:i=j
  ·subst d;obtain⟨g1,g2,o',g3,n⟩:=m.ft e1 g f;rw[k _ _ g3 (m.tp.nt g1)]at h2;cases h2;exact l n
  ·exact h1 (.inr ⟨j,c,s,by rw[su d];exact e1,g,f⟩)
theorem kI {Q:List PyData->Prop}{i:Nat}{a:A}{b:Option A}(hi:α[i]?=some (some a))(hm:∀F σ H,M F α σ H->M F (α.set i b) σ H)(h:EvL X (α.set i b) e λd=>wU d=true/\Q d):EvL X α e Q:=λF σ H R m k=>
 h F σ H R (hm F σ H m) λd v H' q t kz r=>by
  obtain⟨l,xs,h1,h2,h3,o⟩:=r;refine k d v H' q.2 t kz ⟨l,xs,h1,h2,h3,o.noL (λa ys hno z=>?_) q.1⟩;obtain⟨f,g⟩:=zc z;obtain⟨n,j⟩:=zc (zC2 m kz hi a ys hno (zA f.1 g));exact zA ⟨n,f.2⟩ j
theorem jH {Q:Bool->Prop}(i:Nat){ds:List PyData}(hi:α[i]?=some (some (.own ds)))(h:EvT X (α.set i (some (.dat (.list ds)))) e Q):EvT X α e Q:=λF σ H R m k=>h F σ H R (m.frz hi) k
theorem kX {Q:List PyData->Prop}(i:Nat){ds:List PyData}(hi:α[i]?=some (some (.own ds)))(h:EvL X (α.set i (some (.dat (.list ds)))) e λd=>wU d=true/\Q d):EvL X α e Q:=kI hi (λ_ _ _ m=>m.frz hi) h
def ItW (p:Addr->Prop)(J:It)(ds:List PyData)(G:Hp):Prop:=∀(i:Nat) (f:Hp) (q:Addr->Prop),zz G (sub q f)->
 (∀d,ds[i]?=some d->J.go i f/\∀x g,J.yld i f x g->zz f g/\((∀a o,g a=some o->f a=none->q a)->AV (sub q g) x d))/\(ds.length<=i->J.stop i f)
def zA3 (X:Cx)(tg e:Expr):TI:=λσ H R=>∃t,PI X tg e t/\t σ H R
theorem pJ {tg e:Expr}:PI X tg e (zA3 X tg e):=λpins s σ H R I d=>by obtain⟨t,p,q⟩:=d;exact p pins s σ H R I q
def EvI (X:Cx)(α:Ev)(tg e:Expr)(Q:List PyData->Prop):Prop:=∀(F:Fr) (σ:St) (H:Hp) (R:It->Hp->Prop),M F α σ H->
 (∀ds J H',Q ds->zG F H'->Kz F H H'->ItW (λx=>¬Ow F α σ x) J ds (Gz F α σ H')->R J H')->zA3 X tg e σ H R
theorem zK {tg:Expr}{Q:List PyData->Prop}(h:EvD X α e λx=>∃ds,x=.list ds/\Q ds):EvI X α tg e Q:=λF σ H R m k=>by
 refine⟨_,jY zf,?_⟩;refine h F σ H _ m λx t H1 j t1 l n=>?_;obtain⟨ds,rfl,q⟩:=j;obtain⟨a,xs,rfl,h1,h2⟩:=n.lst_inv;refine⟨a,rfl,⟨xs,SqL.of (zc h1).2⟩,k ds _ H1 q t1 l λi r p s=>⟨λd hd=>?_,λg=>?_⟩⟩
 ·obtain⟨x,f,av⟩:=h2.get hd;have ha:=SqL.of (K:=X.K) (zc (s _ _ h1)).2;refine⟨⟨xs,x,ha,f⟩,λo u y=>?_⟩;obtain⟨e,y⟩:=y;subst e;have:=y xs ha;rw[f]at this;cases this;exact⟨zz.refl _,λ_=>av.same s⟩
 ·exact⟨xs,SqL.of (zc (s _ _ h1)).2,by rw[h2.length];exact g⟩
theorem qo {p:Addr->Prop}{lo:Int}{n:Nat}{G:Hp}:ItW p (Itr lo n) ((zo lo n).map .int) G:=λi h q s=>⟨λd hd=>by
  rw[zY3,zZ4]at hd;obtain⟨z,h1,rfl⟩:=hd;have hi:i<n:=by
   have:=(zX5.mp h1).1
   rwa [zd]at this
  rw[zU hi]at h1;cases h1;refine⟨hi,λx g y=>?_⟩;obtain⟨rfl,rfl⟩:=y;exact⟨zz.refl _,λ_=>.int _⟩,λf=>by
  rw[zX0,zd]at f;exact f⟩
theorem xW {tg:Expr}{Q:List PyData->Prop}(hg:Gl X "range")(hm:X.mg "range"=none)(h:EvD X α a λx=>∃j,x=.int j/\-(2 ^ 62)<=j/\j<2 ^ 62/\Q ((zo 0 j.toNat).map .int))(d:starEach [a] X.env=[(false,eval a X.env)]:=by rfl):
  EvI X α tg (.Call (.Name "range" p) [a] [] pos) Q:=λF σ H R m k=>by
 refine⟨_,fU hg hm (zr zf zD d) d,?_⟩;refine h F σ H _ m λx o H1 l t1 g i=>?_;obtain⟨j,rfl,f,n,q⟩:=l;cases i.int_inv;exact⟨j,rfl,f,n,k _ _ H1 q t1 g qo⟩
theorem xY {tg:Expr}{Q:List PyData->Prop}(hg:Gl X "range")(hm:X.mg "range"=none)(h:EvD X α a λx=>EvD X α b λy=>∃i j,x=.int i/\y=.int j/\(-(2 ^ 62)<=i/\i<2 ^ 62/\-(2 ^ 62)<=j/\j<2 ^ 62)/\Q ((zo i (j-i).toNat).map .int))
  (s:starEach [a,b] X.env=[(false,eval a X.env),(false,eval b X.env)]:=by rfl) (d:starEach [b] X.env=[(false,eval b X.env)]:=by rfl) (f:starEach [a,b] X.env=(false,eval a X.env)::starEach [b] X.env:=by rfl):
  EvI X α tg (.Call (.Name "range" p) [a,b] [] pos) Q:=λF σ H R m k=>by
 refine⟨_,iG hg hm (zr zf (zr zf zD d) f) s d,?_⟩;refine h F σ H _ m λx A H1 v t1 g u=>?_;have m1:=m.kz g t1;refine v F σ H1 _ m1 λy z w l n t r=>?_;obtain⟨i,j,rfl,rfl,o,q⟩:=l;cases u.int_inv;cases r.int_inv;exact⟨i,j,rfl,o,k _ _ w q n (g.trans t) qo⟩
end
inductive Pat where
 |one (i:Nat)
 |many (is:List Nat)
 |nest (i:Nat) (is:List Nat)
def xN :List Nat->List PyData->Ev->Option Ev
 |[],[],α=>some α
 |i::is,d::ds,α=>xN is ds (α.set i (some (.dat d)))
 |_,_,_=>none
def Pat.bind :Pat->PyData->Ev->Option Ev
 |.one i,d,α=>some (α.set i (some (.dat d)))
 |.many is,.tuple ds,α=>xN is ds α
 |.nest i is,.tuple [d,.tuple ds],α=>xN is ds (α.set i (some (.dat d)))
 |_,_,_=>none
def gIs :List Nat->TGs
 |[]=>zE0
 |i::is=>iD (sg i) (gIs is)
def nu (K:PySem.W.Frag):Pat->TG
 |.one i=>sg i
 |.many is=>cA K is.length (gIs is)
 |.nest i is=>cA K 2 (iD (sg i) (iD (cA K is.length (gIs is)) zE0))
def Pat.slots :Pat->List Nat
 |.one i=>[i]
 |.many is=>is
 |.nest i is=>i::is
def isFree (α:Ev)(i:Nat):Bool:=match α[i]? with
 |some none=>true
 |_=>false
def Pat.free (p:Pat)(α:Ev):Bool:=p.slots.all (isFree α)
section
variable {X:Cx}{α α':Ev}{F:Fr}{σ:St}{H:Hp}
theorem M.store {i:Nat}{v:V}{b:A}{H':Hp}(m:M F α σ H)(t:zG F H')(k:Kz F H H')(hn:∀x,foot (some v) b x->H x=none)(hok:vC (sub (λx=>¬Ow F α σ x/\¬foot (some v) b x) H') F H' (some v) b)(N:noX b:=by trivial):M F (α.set i (some b)) (σ.set i (some v)) H':=by
 have K:=m.kz k t;have D:∀{j:Nat} {c:A} {s:Option V},(α.set i (some b))[j]?=some (some c)->(σ.set i (some v))[j]?=some s->(i=j/\c=b/\s=some v)\/(i≠j/\α[j]?=some (some c)/\σ[j]?=some s):=λ{j c s} e1 n=>by
  rcases zL e1 with⟨rfl,z⟩|⟨J,E⟩
  ·cases z;have L:i<σ.length:=by
    have:=(zX5.mp n).1
    rwa [z48]at this
   rw[z75 L]at n;cases n;exact .inl ⟨rfl,rfl,rfl⟩
  ·rw[z33 J]at n;exact .inr ⟨J,E,n⟩
 have ow:∀{y:Addr},Ow F (α.set i (some b)) (σ.set i (some v)) y->Ow F α σ y\/foot (some v) b y:=λ{y} h=>by
  rcases h with z|⟨j,c,s,e1,n,f⟩
  ·exact .inl (.inl z)
  ·rcases D e1 n with⟨_,rfl,rfl⟩|⟨_,g1,g2⟩
   ·exact .inr f
   ·exact .inl (.inr ⟨j,c,s,g1,g2,f⟩)
 have g1:zz (sub (λx=>¬Ow F α σ x/\¬foot (some v) b x) H') (Gz F (α.set i (some b)) (σ.set i (some v)) H'):=zq λa o h e=>⟨λz=>(ow z).elim h.1 h.2,e⟩;have O:zz (Gz F α σ H) (sub (λx=>¬Ow F α σ x/\¬foot (some v) b x) H'):=zq λa o h e=>⟨⟨h,λz=>by rw[hn a z]at e;cases e⟩,k a o e (m.tp.nt (ow0 h))⟩;refine⟨by rw[z48,z48];exact m.len,λj c s e1 n=>?_,λj G c d s s' x e1 n h1 h2 f1 f2=>?_,λj r q e G c s x e1 n f=>?_,t,m.keep.trans k,K.oex⟩
 ·rcases D e1 n with⟨rfl,rfl,rfl⟩|⟨_,u,p⟩
  ·exact hok.stay g1 (λx o f e=>by
    obtain⟨B,C,_⟩:=ou hok f;exact⟨e,B,C⟩) rfl λ_ _ _ l=>l
  ·exact(m.ok j c s u p).stay (O.trans g1) (λx o f e=>by
    obtain⟨B,C,_⟩:=m.ft u p f;exact⟨k x o e (m.tp.nt B),B,C⟩) rfl λ_ _ _ l=>l.kz k t
 ·have nn:∀{j:Nat} {c:A} {s:Option V},α[j]?=some (some c)->σ[j]?=some s->foot s c x->¬foot (some v) b x:=λ{j c s} u p f g=>by
   obtain⟨_,_,o,w,_⟩:=m.ft u p f;rw[hn x g]at w;cases w
  rcases D e1 h1 with⟨rfl,rfl,rfl⟩|⟨_,u,p⟩
  ·rcases D n h2 with⟨rfl,_⟩|⟨_,B,C⟩
   ·rfl
   ·exact absurd f1 (nn B C f2)
  ·rcases D n h2 with⟨rfl,rfl,rfl⟩|⟨_,B,C⟩
   ·exact absurd f2 (nn u p f1)
   ·exact m.dj j G c d s s' x u B p C f1 f2
 ·rcases zL e with⟨rfl,z⟩|⟨_,I⟩
  ·cases z;exact N.elim
  ·rcases D e1 n with⟨rfl,rfl,rfl⟩|⟨_,u,p⟩
   ·exact(m.lnk I).none (hn x f)
   ·exact m.xd j r q I G c s x u p f
theorem M.set {i:Nat}{v:V}{d:PyData}(m:M F α σ H)(av:AV (Gz F α σ H) v d):M F (α.set i (some (.dat d))) (σ.set i (some v)) H:=
 m.store m.tp Kz.refl (λx z=>z.elim) ⟨v,rfl,av.same (zq λa o h e=>⟨⟨h,λz=>z⟩,e⟩)⟩
theorem M.setC {i:Nat}{v:V}{c:PyData}{H':Hp}(m:M F α σ H)(t:zG F H')(k:Kz F H H')(d:lE F α σ H v H' c):M F (α.set i (some (.ow c))) (σ.set i (some v)) H':=by
 obtain⟨l,o,rfl,h1,h2,h3⟩:=d;have nl:¬Ow F α σ l:=m.fresh h1;refine m.store t k (λx z=>?_) ⟨l,o,rfl,h2,h3.same (zq λa o h e=>⟨⟨h.1,λz=>h.2 (by cases z;rfl)⟩,e⟩),ow0 nl,m.fresh0 h1⟩;have b:some (V.ref l)=some (.ref x):=z;cases b;exact h1
theorem M.setOwn {i:Nat}{v:V}{ds:List PyData}{H':Hp}(m:M F α σ H)(t:zG F H')(k:Kz F H H')(a:yL F α σ H v H' ds):M F (α.set i (some (.own ds))) (σ.set i (some v)) H':=m.setC t k a.c
theorem M.wr {x:Addr}{o:HO}(m:M F α σ H)(hno:wF o)(p:F.O0 x)(v:∀t b c,F.tp=some (t,b,c)->x≠t/\x≠b/\x≠c)(h0:F.H0 x=none)(hpl:Plain H x)(B:∀(i:Nat) r q,α[i]?=some (some (.exc r q))->r.H0 x=none):M F α σ (upd H x o):=by
 have C:zz (Gz F α σ H) (Gz F α σ (upd H x o)):=zq λa u h e=>⟨h,by rw[zb (λz=>h (.inl (by rw[z];exact p)))];exact e⟩;refine⟨m.len,λj c s e1 g=>?_,m.dj,m.xd,m.tp.upd v hpl,λy u e n=>?_,λy hy=>?_⟩
 ·have:=m.ok j c s e1 g;cases c with
  |exc r q=>
   have l:Lnk r F H:=this;exact⟨l.tp,l.o,l.ok.upd (λa b c e=>v a b c (l.tp▸e)) hpl,λy u e n=>by rw[zb (zj e (B j r q e1))];exact l.k y u e n⟩
  |_=>exact this.stay C (λy u f e=>by
    obtain⟨d,A,_⟩:=m.ft e1 g f;exact⟨by rw[zb (λz=>d (by rw[z];exact p))];exact e,d,A⟩) rfl λ_ _ z=>by cases z
 ·rw[zb (zj e h0)];exact m.keep y u e n
 ·by_cases z:y=x
  ·exact⟨o,by rw[z];exact zi,hno⟩
  ·obtain⟨u,w,hn⟩:=m.oex y hy;exact⟨u,by rw[zb z];exact w,hn⟩
theorem M.forget {b:Ev}(m:M F α σ H)(n:b.length=α.length)(le:∀(i:Nat) a,b[i]?=some (some a)->α[i]?=some (some a)):M F b σ H:=by
 have ow:∀{y:Addr},Ow F b σ y->Ow F α σ y:=λ{y} h=>by
  rcases h with z|⟨j,c,s,e1,g,f⟩
  ·exact .inl z
  ·exact .inr ⟨j,c,s,le _ _ e1,g,f⟩
 have p:zz (Gz F α σ H) (Gz F b σ H):=zq λa o h e=>⟨λz=>h (ow z),e⟩;exact⟨n.trans m.len,λj c s e1 g=>(m.ok j c s (le _ _ e1) g).stay p (λx o f e=>⟨e,(m.ft (le _ _ e1) g f).1,(m.ft (le _ _ e1) g f).2.1⟩) rfl λ_ _ _ l=>l,λj k c d s s' x e1 g=>m.dj j k c d s s' x (le _ _ e1) (le _ _ g),λj r q e k c s x e1=>m.xd j r q (le _ _ e) k c s x (le _ _ e1),m.tp,m.keep,m.oex⟩
theorem uK {H:Hp}:∀{is:List Nat}{ds:List PyData}{α α':Ev}{σ:St}{xs:List V}{R:St->Hp->Prop},xN is ds α=some α'->M F α σ H->(∀G,zz (Gz F α σ H) G->AVs G xs ds)->(∀b,M F α' b H->R b H)->gIs is xs σ H R
 |[],[],α,α',σ,xs,R,e,m,av,k=>by
  cases e;cases av _ (zz.refl _);exact⟨rfl,k σ m⟩
 |i::is,d::ds,α,α',σ,xs,R,e,m,av,k=>by
  cases h:av _ (zz.refl _)with
  |@cons x xs _ _ h1 h2=>
   refine⟨x,xs,rfl,?_⟩;have p:zz (Gz F α σ H) (Gz F (α.set i (some (.dat d))) (σ.set i (some x)) H):=zq λa o h e=>⟨λz=>h (by
    rcases z with z|⟨j,c,s,e1,l,f⟩
    ·exact .inl z
    ·rcases zL e1 with⟨_,z⟩|⟨n,g⟩
     ·cases z;exact f.elim
     ·rw[z33 n]at l;exact .inr ⟨j,c,s,g,l,f⟩),e⟩
   exact uK (is:=is) (ds:=ds) e (m.set (i:=i) h1) (λG s=>h2.same (p.trans s)) k
 |[],_::_,_,_,_,_,_,e,_,_,_=>by cases e
 |_::_,[],_,_,_,_,_,e,_,_,_=>by cases e
theorem Pat.nest_inv {i:Nat}{is:List Nat}{d:PyData}(e:(Pat.nest i is).bind d α=some α'):∃a ds,d=.tuple [a,.tuple ds]/\xN is ds (α.set i (some (.dat a)))=some α':=by
 cases d with
 |tuple xs=>
  cases xs with
  |nil=>cases e
  |cons a r=>
   cases r with
   |nil=>cases e
   |cons b r=>
    cases r with
    |nil=>
     cases b with
     |tuple ds=>exact⟨_,_,rfl,e⟩
     |_=>cases e
    |cons _ _=>cases b<;>cases e
 |_=>cases e
theorem qk :∀{is:List Nat}{ds:List PyData}{α α':Ev},xN is ds α=some α'->ds.length=is.length:=by
 intro is
 induction is with
 |nil=>intro ds α α' h;cases ds with|nil=>rfl|cons _ _=>cases h
 |cons i is a=>intro ds α α' h;cases ds with|nil=>cases h|cons d ds=>rw[zY7,zY7,a h]
theorem jT {K:PySem.W.Frag}{pat:Pat}{d:PyData}{v:V}{R:St->Hp->Prop}(e:pat.bind d α=some α')(m:M F α σ H)(av:AV (Gz F α σ H) v d)(k:∀g,M F α' g H->R g H):nu K pat v σ H R:=by
 cases pat with
 |one i=>cases e;exact k _ (m.set av)
 |many is=>
  cases d with
  |tuple ds=>
   obtain⟨a,xs,rfl,h1,h2⟩:=av.tup_inv;exact⟨a,xs,rfl,SqT.of (zc h1).2,by rw[h2.length];exact qk e,uK e m (λG s=>h2.same s) k⟩
  |_=>cases e
 |nest i is=>
  obtain⟨t,ds,rfl,e⟩:=Pat.nest_inv e;obtain⟨a,xs,rfl,h1,h2⟩:=av.tup_inv;cases h2 with
  |@cons x0 r _ _ z1 z2=>
   cases z2 with
   |@cons x1 r _ _ z3 z4=>
    cases z4;have m1:=m.set (i:=i) z1;have x:zz (Gz F α σ H) (Gz F (α.set i (some (.dat t))) (σ.set i (some x0)) H):=zq λa o h e=>⟨λz=>h (by
     rcases z with z|⟨j,c,s,e1,p,f⟩
     ·exact .inl z
     ·rcases zL e1 with⟨_,z⟩|⟨u,l⟩
      ·cases z;exact f.elim
      ·rw[z33 u]at p;exact .inr ⟨j,c,s,l,p,f⟩),e⟩
    obtain⟨b,ys,rfl,w,n⟩:=(z3.same x).tup_inv;exact⟨a,_,rfl,SqT.of (zc h1).2,rfl,_,_,rfl,_,_,rfl,⟨b,ys,rfl,SqT.of (zc w).2,by rw[n.length];exact qk e,uK e m1 (λG s=>n.same s) λg q=>⟨rfl,k g q⟩⟩⟩
theorem rQ :∀{is:List Nat}{ds:List PyData}{α α':Ev},xN is ds α=some α'->α'.length=α.length
 |[],[],_,_,e=>by cases e;rfl
 |i::is,d::ds,α,α',e=>by
  have:=rQ (is:=is) (ds:=ds) e
  rwa [z48]at this
 |[],_::_,_,_,e=>by cases e
 |_::_,[],_,_,e=>by cases e
theorem sJ :∀{is:List Nat}{ds:List PyData}{α α':Ev}{j:Nat},xN is ds α=some α'->j∉is->α'[j]?=α[j]?
 |[],[],_,_,_,e,_=>by cases e;rfl
 |i::is,d::ds,α,α',j,e,h=>by
  rw[sJ (is:=is) (ds:=ds) e λz=>h (zX8 _ z)];exact z33 λ(z:i=j)=>h (by rw[<-z];exact zX9)
 |[],_::_,_,_,_,e,_=>by cases e
 |_::_,[],_,_,_,e,_=>by cases e
theorem sk :∀{is:List Nat}{ds:List PyData}{α α':Ev}{j:Nat}{a:A},xN is ds α=some α'->α'[j]?=some (some a)->(∀d,a≠.dat d)->α[j]?=some (some a)
 |[],[],_,_,_,_,e,h,_=>by cases e;exact h
 |i::is,d::ds,α,α',j,a,e,h,hn=>by
  rcases zL (sk (is:=is) (ds:=ds) e h hn)with⟨_,z⟩|⟨_,z⟩
  ·cases z;exact absurd rfl (hn d)
  ·exact z
 |[],_::_,_,_,_,_,e,_,_=>by cases e
 |_::_,[],_,_,_,_,e,_,_=>by cases e
theorem Pat.is_ok {pat:Pat}{d:PyData}(e:pat.bind d α=some α'):∃is ds,pat.slots=is/\xN is ds α=some α':=by
 cases pat with
 |one i=>cases e;exact⟨_,[d],rfl,rfl⟩
 |many is=>
  cases d with
  |tuple ds=>exact⟨_,ds,rfl,e⟩
  |_=>cases e
 |nest i is=>
  obtain⟨a,ds,rfl,e⟩:=Pat.nest_inv e;exact⟨_,a::ds,rfl,e⟩
theorem Pat.back {pat:Pat}{d:PyData}(e:pat.bind d α=some α')(fr:pat.free α=true)(m:M F α' σ H):M F α σ H:=by
 obtain⟨is,ds,rfl,e⟩:=Pat.is_ok e;refine m.forget (rQ e).symm λj a h=>?_;by_cases b:j∈pat.slots
 ·have:=z67.mp fr j b;unfold isFree at this;rw[h]at this;cases this
 ·rw[sJ e b];exact h
end
section
variable {X:Cx}{α:Ev}
def gC (X:Cx)(α:Ev)(ifs:List Expr)(Q:Bool->Prop):Prop:=∀(F:Fr) (σ:St) (H:Hp) (R:Bool->Hp->Prop),M F α σ H->(∀b H',Q b->zG F H'->Kz F H H'->R b H')->∃t,wO X ifs t/\t σ H R
def zw7 (X:Cx)(ifs:List Expr):TT:=λσ H R=>∃t,wO X ifs t/\t σ H R
theorem jS {ifs:List Expr}:wO X ifs (zw7 X ifs):=λpins s σ H Q I a=>by obtain⟨t,p,q⟩:=a;exact p pins s σ H Q I q
theorem km {Q:Bool->Prop}(q:Q true):gC X α [] Q:=λF σ H R m k=>⟨_,zn6,k _ H q m.tp Kz.refl⟩
theorem dg {c:Expr}{Q:Bool->Prop}(h:EvT X α c Q):gC X α [c] Q:=λF σ H R m k=>⟨_,jw xp,h F σ H R m k⟩
def seen :Option A->Option A
 |some (.dat d)=>some (.dat d)
 |some .tape=>some .tape
 |_=>none
def yI (imp:List (Option Nat))(α:Ev):Ev:=imp.map λo=>o.bind λj=>(α[j]?).bind seen
theorem mD {imp:List (Option Nat)}{i:Nat}{a:A}(h:(yI imp α)[i]?=some (some a)):∃j,imp[i]?=some (some j)/\α[j]?=some (some a)/\((∃d,a=.dat d)\/a=.tape):=by
 unfold yI at h;rw[zY3,zZ4]at h;obtain⟨o,h1,h2⟩:=h;cases o with
 |none=>cases h2
 |some j=>
  have c:(α[j]?).bind seen=some a:=h2;cases q:α[j]? with
  |none=>rw[q]at c;cases c
  |some b=>
   rw[q]at c;cases b with
   |none=>cases c
   |some b=>
    cases b with
    |dat d=>cases c;exact⟨j,h1,q,.inl ⟨d,rfl⟩⟩
    |tape=>cases c;exact⟨j,h1,q,.inr rfl⟩
    |_=>cases c
theorem oJ {imp:List (Option Nat)}{σ:St}{i j:Nat}{v:V}(h1:imp[i]?=some (some j))(h2:σ[j]?=some (some v)):(xX imp σ)[i]?=some (some v):=by
 unfold xX;rw[zY3,h1];show some ((σ[j]?).bind id)=_;rw[h2];rfl
def yX (Y:Addr->Shared->Hp->List Addr->Cx)(pat:Pat)(ifs:List Expr)(elt:Expr)(a:Ev):List PyData->List PyData->(List PyData->Prop)->Prop
 |[],acc,Q=>Q acc
 |d::ds,acc,Q=>∃b,pat.bind d a=some b/\∀C s2 c fp,gC (Y C s2 c fp) b ifs λk=>if k=true then ∀C s2 c fp,EvD (Y C s2 c fp) b elt λy=>yX Y pat ifs elt a ds (acc++[y]) Q else yX Y pat ifs elt a ds acc Q
def eC (Y:Addr->Shared->Hp->List Addr->Cx)(e:Expr):TE:=λσ H Q=>∀C s2 a fp,uo (Y C s2 a fp) e σ H Q
def tsC (Y:Addr->Shared->Hp->List Addr->Cx)(ifs:List Expr):TT:=λσ H Q=>∀C s2 a fp,zw7 (Y C s2 a fp) ifs σ H Q
theorem jC {N:List Str}{imp:List (Option Nat)}{scope:Scope}{tg iter elt:Expr}{ifs:List Expr}{pat:Pat}{Q:List PyData->Prop}(G:pat.free (yI imp α)=true)
  (h:EvI X α tg iter λds=>ds.length<=1000/\yX (λC s2 u fp=>X.comp N scope C s2 u fp) pat ifs elt (yI imp α) ds [] Q)
  (F:Fr) (σ:St) (H:Hp) (R:VK) (m:M F α σ H) (k:∀ds v H',Q ds->zG F H'->Kz F H H'->yL F α σ H v H' ds->R v H'):
  ∃Y:Addr->Shared->Hp->List Addr->Cx,Y=(λC s2 u fp=>X.comp N scope C s2 u fp)/\dY (zA3 X tg iter) imp (nu X.K pat) (tsC Y ifs) (eC Y elt) σ H R:=by
 refine⟨_,rfl,?_⟩;refine h F σ H _ m λds J H1 b0 t1 k1 a8 acc g=>?_;obtain⟨hl,q1⟩:=b0;have m1:=m.kz k1 t1;have b7:¬Ow F α σ acc:=m1.fresh g
 let A:Fr:=⟨H1,λx=>Ow F α σ x\/x=acc,F.tp⟩
 let Nd:Ev->Prop:=λl=>∀(j:Nat) a,l[j]?=some (some a)->(∃d,a=.dat d)\/a=.tape
 have B:Nd (yI imp α):=λj a z=>by
  obtain⟨_,_,_,n⟩:=mD z;exact n
 have owc:∀{l:Ev} {O:St} {x:Addr},Nd l->(Ow A l O x↔A.O0 x):=λ{l O x} hh=>⟨λz=>z.elim id λa7=>by
  obtain⟨j,a,s,e1,W,f⟩:=a7;rcases hh j a e1 with⟨d,rfl⟩|rfl
  ·exact f.elim
  ·exact f.elim,.inl⟩
 have gz:∀{l a0:Ev} {D τ2:St} {H:Hp},Nd l->Nd a0->zz (Gz A l D H) (Gz A a0 τ2 H):=λh1 h2=>zq λa o h e=>⟨λz=>h ((owc h1).mpr ((owc h2).mp z)),e⟩;have b1:∀{u:Hp},zG F u->zG A u:=λt=>t.to rfl λx z=>.inl (.inl z);have V:zz H1 (upd H1 acc (.lst [])):=ye g;have a6:M A (yI imp α) (xX imp σ) (upd H1 acc (.lst [])):=by
  have g1:zz (Gz F α σ H1) (Gz A (yI imp α) (xX imp σ) (upd H1 acc (.lst []))):=λa o e=>by
   obtain⟨z1,z2⟩:=zc e;have na:a≠acc:=zj z2 g;exact zA (λz=>((owc B).mp z).elim z1 na) (by rw[zb na];exact z2)
  refine⟨by unfold yI xX;rw[zX0,zX0],λi a s e1 W=>?_,λi j a b s t x e1 W _ _ f=>?_,λi r q e=>(by rcases B i _ e with⟨d,w⟩|w<;>cases w),b1 (t1.same V),λx o e _=>V x o e,?_⟩
  ·obtain⟨j,w1,w2,w3⟩:=mD e1;rcases w3 with⟨d,rfl⟩|rfl
   ·obtain⟨v,g2,g3⟩:=m1.dat j d w2;rw[oJ w1 g2]at W;cases W;exact⟨v,rfl,g3.same g1⟩
   ·obtain⟨t,b,c,g2,g3⟩:=m1.tvar j w2;rw[oJ w1 g3]at W;cases W;exact⟨t,b,c,g2,rfl⟩
  ·rcases B i a e1 with⟨d,rfl⟩|rfl
   ·exact f.elim
   ·exact f.elim
  ·rintro x (z|z)
   ·have:∃o,H1 x=some o/\wF o:=m1.owEx z;obtain⟨o,ho,hn⟩:=this;exact⟨o,V _ _ ho,hn⟩
   ·exact⟨_,by rw[z];exact zi,yQ⟩
 refine⟨λi n ys O u=>n=ds.length-i/\i<=ds.length/\∃ad:List PyData,M A (yI imp α) O u/\u acc=some (.lst ys)/\AVs (Gz A (yI imp α) O u) ys ad/\ad.length<=i/\yX (λC s2 u fp=>X.comp N scope C s2 u fp) pat ifs elt (yI imp α) (ds.drop i) ad Q,
  ⟨ds.length,by simp,zY9 _,[],a6,zi,.nil,zX7 _,q1⟩,?_⟩
 rintro i n ys O u ⟨rfl,hi,ad,m2,ha,av,had,cw⟩;have sG:zz (Gz F α σ H1) (Gz A (yI imp α) O u):=λa o e=>by
  obtain⟨z1,z2⟩:=zc e;exact m2.old a o (zA (p:=λx=>¬A.O0 x) (λz=>z.elim z1 (zj z2 g)) z2)
 obtain⟨w1,w2⟩:=a8 i u _ sG;by_cases I:i<ds.length
 ·have hd:ds[i]?=some ds[i]:=zX3 I;have b6:ds.drop i=ds[i]::ds.drop (i+1):=z68 I;rw[b6]at cw;obtain⟨l,eb,body⟩:=cw;obtain⟨go,yl⟩:=w1 _ hd;have E:Nd l:=λj a z=>by
   obtain⟨is,b8,_,e⟩:=Pat.is_ok eb;by_cases hn:∀d,a≠.dat d
   ·exact B j a (sk e z hn)
   ·simp only[Classical.not_forall,Classical.not_not]at hn;exact .inl hn
  refine .inr ⟨go,λU T H'=>∃ad:List PyData,M A (yI imp α) T H'/\H' acc=some (.lst U)/\AVs (Gz A (yI imp α) T H') U ad/\ad.length<=i+1/\yX (λC s2 u fp=>X.comp N scope C s2 u fp) pat ifs elt (yI imp α) (ds.drop (i+1)) ad Q,
   λU T H' a5=>by obtain⟨b2,r1,r2,r3,r4,r5⟩:=a5;exact⟨ds.length-(i+1),(om0 I),rfl,I,b2,r1,r2,r3,r4,r5⟩,λx H3 y=>?_⟩
  obtain⟨L,b3⟩:=yl x H3 y;have m3:M A (yI imp α) O H3:=m2.kz (Kz.of_same L) (m2.tp.same L);have Z:=b3 λa o _ e=>m2.fresh e;refine jT eb m3 Z λD m4 C s2 b4 fp=>?_;refine body C s2 b4 fp A D H3 _ m4 λb H5 qb t5 k5=>?_;have m5:=m4.kz k5 t5;have a3:AVs (Gz A (yI imp α) D H5) ys ad:=av.same ((Kz.of_same L).gz m2.tp |>.trans ((gz (τ2:=D) B E).trans ((k5.gz m4.tp).trans (gz E B))));have accN:NT A acc:=⟨λt b c e=>by
   have:=(t1 t b c e).1.free g;exact⟨this.1,this.2.1⟩,ny t1.tab g⟩
  have a2:H5 acc=some (.lst ys):=k5 _ _ (L _ _ ha) accN;cases b with
  |false=>
   have a9:yX (λC s2 u fp=>X.comp N scope C s2 u fp) pat ifs elt (yI imp α) (ds.drop (i+1)) ad Q:=by simpa using qb
   exact sH ⟨ad,Pat.back eb G m5,a2,a3,(zY1 had (zY8 _ _)),a9⟩
  |true=>
   refine rF λC s2 P fp=>?_;have qe:EvD (X.comp N scope C s2 P fp) l elt λy=>yX (λC s2 u fp=>X.comp N scope C s2 u fp) pat ifs elt (yI imp α) (ds.drop (i+1)) (ad++[y]) Q:=by
    have z:=qb;rw[if_pos rfl]at z;exact z C s2 P fp
   refine qe A D H5 _ m5 λy v H6 qy t6 k6 r6=>?_;have m6:=m5.kz k6 t6;have a4:H6 acc=some (.lst ys):=k6 _ _ a2 accN;have hlen:ys.length<=i:=by rw[av.length];exact had
   have S:A.O0 acc:=.inr rfl;have a1:∀t b c,A.tp=some (t,b,c)->acc≠t/\acc≠b/\acc≠c:=λt b c e=>(t1 t b c e).1.free g;have m7:=(Pat.back eb G m6).wr (o:=.lst (ys++[v])) yQ S a1 g (qH a4) (λi r q z=>by rcases B i _ z with⟨d,w⟩|w<;>cases w);refine⟨a4,yw (by lia),ad++[y],m7,zi,?_,by simp;exact had,qy⟩;have b5:zz (Gz A (yI imp α) D H6) (Gz A (yI imp α) D (upd H6 acc (.lst (ys++[v])))):=zq λa o h e=>⟨h,by rw[zb (λz=>h (.inl (by rw[z];exact S)))];exact e⟩;exact((a3.same ((gz (τ2:=D) B E).trans ((k6.gz m5.tp).trans (gz E B)))).append (.cons (r6.same (gz E B)) .nil)).same b5
 ·have e:i=ds.length:=(z69 hi (z66 I));subst e;rw[yb0]at cw;refine .inl ⟨w2 (zX7 _),k ad _ u cw ?_ (k1.trans m2.keep) (yL.back m k1 t1 ⟨acc,ys,rfl,g,ha,av.same (zq λa o h e=>⟨⟨λz=>h (.inl (.inl z)),λz=>h (.inl (.inr z))⟩,e⟩)⟩)⟩;exact m.tp.re m2.tp rfl
theorem dQ {N:List Str}{imp:List (Option Nat)}{scope:Scope}{tg iter elt:Expr}{ifs:List Expr}{pat:Pat}{Q:List PyData->Prop}{pos:Pos}(d:X.calm=true)(S:zJ X.N X.env.scope N imp scope)(a:pat.free (yI imp α)=true)
  (hg:∀C s2 b fp,PG (X.comp N scope C s2 b fp) tg (nu X.K pat))
  (h:EvI X α tg iter λds=>ds.length<=1000/\yX (λC s2 b fp=>X.comp N scope C s2 b fp) pat ifs elt (yI imp α) ds [] Q) (c:∀x,foldedSetIterable iter X.env x=pure x:=by intro _;rfl):
  EvL X α (.ListComp elt [⟨tg,iter,ifs,0⟩] scope pos) Q:=λF σ H R m k=>by
 obtain⟨Y,rfl,h⟩:=jC a h F σ H R m k;exact⟨_,zw2 d S pJ hg (λC s2 b fp pins s σ H Q I h=>jS pins s σ H Q I (h C s2 b fp)) (λC s2 b fp pins s σ H Q I h=>zf pins s σ H Q I (h C s2 b fp)) c,h⟩
section
variable {E:xf}{rest body:List Stmt}{e c tg iter:Expr}{pos p:Pos}
theorem oz.then {F:Fr}{D:Ends}(h:oz F E D):oz F {E with nx:=λa=>SvS X a rest E} {D with nx:=ze2 X rest D}:=
 ⟨λa b H' m q=>q F b H' D m h,h.rt,h.bk,h.ct⟩
theorem zF (q:E.nx α):SvS X α [] E:=λF σ H D m h=>⟨_,pG,h.nx _ _ _ m q⟩
theorem SvS.imp {d:List Stmt}{b:xf}(h:SvS X α d b)(hn:∀α,b.nx α->E.nx α)(hr:∀a,b.rt a->E.rt a)(hb:∀α,b.bk α->E.bk α)(f:∀α,b.ct α->E.ct α):SvS X α d E:=λF σ H D m r=>
 h F σ H D m ⟨λα σ H m q=>r.nx α σ H m (hn _ q),λa v H m q=>r.rt a v H m (hr _ q),λα σ H m q=>r.bk α σ H m (hb _ q),λα σ H m q=>r.ct α σ H m (f _ q)⟩
theorem yj (i:Nat){x:Str}{pos':Pos}(a:X.N.Nodup)(h:EvD X α e λd=>SvS X (α.set i (some (.dat d))) rest E)(hi:X.N[i]?=some x:=by rfl)(b:Loc X.env.scope x:=by first|exact Or.inl rfl|exact Or.inr rfl)
  (f:swapsWith e (some (.Name x pos')) pos.line X.env=pure false:=by rfl) (hf:X.fn x=true\/X.env.scope.names.lookup x=some .local:=by first|exact .inl rfl|exact .inr rfl|assumption):SvS X α (.Assign [.Name x pos'] e pos::rest) E:=λF σ H D m r=>by
 refine⟨_,zI (wg a hi b zf f hf) zV,?_⟩;exact h F σ H _ m λd v H1 k t1 g j=>k F _ H1 D ((m.kz g t1).set j) r
theorem xl (i:Nat){x:Str}{pos':Pos}(a:X.N.Nodup)(h:EvL X α e λds=>SvS X (α.set i (some (.own ds))) rest E)(hi:X.N[i]?=some x:=by rfl)(b:Loc X.env.scope x:=by first|exact Or.inl rfl|exact Or.inr rfl)
  (f:swapsWith e (some (.Name x pos')) pos.line X.env=pure false:=by rfl) (hf:X.fn x=true\/X.env.scope.names.lookup x=some .local:=by first|exact .inl rfl|exact .inr rfl|assumption):SvS X α (.Assign [.Name x pos'] e pos::rest) E:=λF σ H D m r=>by
 refine⟨_,zI (wg a hi b zf f hf) zV,?_⟩;exact h F σ H _ m λd v H1 k t1 g j=>k F _ H1 D (m.setOwn t1 g j) r
theorem cS (i:Nat){x:Str}{pos' a:Pos}{N:List Str}{imp:List (Option Nat)}{scope:Scope}{elt:Expr}{ifs:List Expr}{pat:Pat}(j:X.N.Nodup)(n:X.calm=true)(S:zJ X.N X.env.scope N imp scope)(b:pat.free (yI imp α)=true)
  (hg:∀C s2 d fp,PG (X.comp N scope C s2 d fp) tg (nu X.K pat))
  (h:EvI X α tg iter λds=>ds.length<=1000/\yX (λC s2 d fp=>X.comp N scope C s2 d fp) pat ifs elt (yI imp α) ds [] λds=>SvS X (α.set i (some (.own ds))) rest E)
  (hi:X.N[i]?=some x:=by rfl) (l:Loc X.env.scope x:=by first|exact Or.inl rfl|exact Or.inr rfl) (f:swapsWith (.ListComp elt [⟨tg,iter,ifs,0⟩] scope a) (some (.Name x pos')) pos.line X.env=pure true:=by rfl)
  (hf:X.fn x=true\/X.env.scope.names.lookup x=some .local:=by first|exact .inl rfl|exact .inr rfl|assumption) (o:∀x,foldedSetIterable iter X.env x=pure x:=by intro _;rfl):
  SvS X α (.Assign [.Name x pos'] (.ListComp elt [⟨tg,iter,ifs,0⟩] scope a) pos::rest) E:=λF σ H D m r=>by
 obtain⟨Y,rfl,h⟩:=jC b h F σ H (λv H'=>ze2 X rest D (σ.set i (some v)) H') m λds v H' q t k g=>q F _ H' D (m.setOwn t k g) r;exact⟨_,zI (dO n S pJ hg (λC s2 d fp pins s σ H Q I h=>jS pins s σ H Q I (h C s2 d fp)) (λC s2 d fp pins s σ H Q I h=>zf pins s σ H Q I (h C s2 d fp)) j hi l f hf o) zV,h⟩
theorem tf.dat {F:Fr}{σ:St}{H:Hp}{v:V}{d:PyData}(m:M F α σ H)(r:AV (Gz F α σ H) v d):tf F v H (.dat d):=
 ⟨m.tp,m.keep,r.same (zq λa o h e=>⟨ow0 h,e⟩)⟩
theorem xv (h:EvD X α e λd=>E.rt (.dat d)):SvS X α (.Return (some e) pos::rest) E:=λF σ H D m r=>by
 refine⟨_,zI (vw zf) zV,?_⟩;exact h F σ H _ m λd v H1 f t1 a b=>r.rt _ _ _ (tf.dat (m.kz a t1) b) f
theorem vT (h:EvL X α e λds=>E.rt (.own ds)):SvS X α (.Return (some e) pos::rest) E:=λF σ H D m r=>by
 refine⟨_,zI (vw zf) zV,?_⟩;refine h F σ H _ m λd v H1 i t1 b f=>r.rt _ _ _ ?_ i;obtain⟨l,xs,h1,h2,h3,g⟩:=f;exact⟨t1,m.keep.trans b,l,xs,_,h1,rfl,m.fresh0 h2,ow0 (m.fresh h2),h3,g.same (zq λa o h e=>⟨⟨ow0 h.1,h.2⟩,e⟩)⟩
theorem xo (i:Nat){x:Str}{ds:List PyData}(hi:α[i]?=some (some (.own ds)))(q:E.rt (.own ds))(f:X.N[i]?=some x:=by rfl)(d:Vis X.env.scope x:=by first|exact Or.inl rfl|exact Or.inr (Or.inl rfl)|exact Or.inr (Or.inr rfl))
  (hd:(x == ("__debug__":Str))=false:=by decide) (b:(x == ("__classdict__":Str))=false:=by decide):SvS X α (.Return (some (.Name x p)) pos::rest) E:=λF σ H D m r=>by
 obtain⟨l,xs,h1,h2,h3,j,g⟩:=m.own i ds hi;refine⟨_,zI (vw (xg f d hd b)) zV,.ref l,h1,r.rt (.own ds) _ _ ⟨m.tp,m.keep,l,xs,_,rfl,rfl,g,j,h2,h3.same (zq λa o h e=>⟨⟨ow0 h,λz=>h (by rw[z];exact .inr ⟨i,_,_,hi,h1,rfl⟩)⟩,e⟩)⟩ q⟩
theorem zi1 (i:Nat){x:Str}{pos':Pos}(a:X.N.Nodup)(h:EvC X α e λc=>SvS X (α.set i (some (.ow c))) rest E)(hi:X.N[i]?=some x:=by rfl)(b:Loc X.env.scope x:=by first|exact Or.inl rfl|exact Or.inr rfl)
  (f:swapsWith e (some (.Name x pos')) pos.line X.env=pure false:=by rfl) (hf:X.fn x=true\/X.env.scope.names.lookup x=some .local:=by first|exact .inl rfl|exact .inr rfl|assumption):SvS X α (.Assign [.Name x pos'] e pos::rest) E:=λF σ H D m r=>by
 refine⟨_,zI (wg a hi b zf f hf) zV,?_⟩;exact h F σ H _ m λd v H1 k t1 g j=>k F _ H1 D (m.setC t1 g j) r
theorem xV {a b:List Stmt}(h:EvT X α c λk=>SvS X α (if k=true then a else b) {E with nx:=λd=>SvS X d rest E}):SvS X α (.If c a b pos::rest) E:=λF σ H D m r=>by
 refine⟨_,zI (eN xp zV zV) zV,?_⟩;refine h F σ H _ m λk H1 g t1 f=>?_;cases k with
 |true=>exact rF ((by simpa using g:SvS X α a _) F σ H1 _ (m.kz f t1) r.then)
 |false=>exact sH ((by simpa using g:SvS X α b _) F σ H1 _ (m.kz f t1) r.then)
theorem vK (i:Nat){ds:List PyData}{a:List Stmt}(hi:α[i]?=some (some (.own ds)))(h:SvS X (α.set i (some (.dat (.list ds)))) a E):SvS X α a E:=λF σ H D m r=>h F σ H D (m.frz hi) r
theorem M.wrC {F:Fr}{σ:St}{H:Hp}{i:Nat}{c c':PyData}{l:Addr}{o':HO}(m:M F α σ H)(hi:α[i]?=some (some (.ow c)))(v:σ[i]?=some (some (.ref l)))(av:yG (Gz F α σ H) o' c'):
  M F (α.set i (some (.ow c'))) σ (upd H l o'):=by
 obtain⟨T,o,h1,h2,h3,D,O⟩:=m.owc i c hi;rw[v]at h1;cases h1;have B:∀{j:Nat} {a:A} {s:Option V},(α.set i (some (.ow c')))[j]?=some (some a)->σ[j]?=some s->(i=j/\a=.ow c'/\s=some (.ref l))\/(i≠j/\α[j]?=some (some a)):=λ{j a s} e1 g=>by
  rcases zL e1 with⟨rfl,z⟩|⟨C,d⟩
  ·cases z;rw[v]at g;cases g;exact .inl ⟨rfl,rfl,rfl⟩
  ·exact .inr ⟨C,d⟩
 have L:∀{y:Addr},Ow F (α.set i (some (.ow c'))) σ y->Ow F α σ y:=λ{y} h=>by
  rcases h with z|⟨j,a,s,e1,g,f⟩
  ·exact .inl z
  ·rcases B e1 g with⟨rfl,rfl,rfl⟩|⟨C,d⟩
   ·exact .inr ⟨i,_,_,hi,v,f⟩
   ·exact .inr ⟨j,a,s,d,g,f⟩
 have ol:Ow F α σ l:=.inr ⟨i,_,_,hi,v,rfl⟩;have P:zz (Gz F α σ H) (Gz F (α.set i (some (.ow c'))) σ (upd H l o')):=zq λa o h e=>⟨λz=>h (L z),by rw[zb (λz=>h (by rw[z];exact ol))];exact e⟩;refine⟨by rw[z48];exact m.len,λj a s e1 g=>?_,λj G a b s t x e1 g J I f1 f2=>?_,λj r q e G a s x e1 g f=>?_,m.tp.updO D (h3.plain h2),λy o e n=>?_,λy hy=>?_⟩
 ·rcases B e1 g with⟨rfl,rfl,rfl⟩|⟨C,d⟩
  ·exact⟨l,o',rfl,zi,av.same P,D,O⟩
  ·refine(m.ok j a s d g).stay P (λy u f e=>?_) rfl λr q R k=>⟨k.tp,k.o,k.ok.updO (λz=>D (k.o _ z)) (h3.plain h2),λy u e n=>?_⟩
   ·obtain⟨S,Q,_⟩:=m.ft d g f;refine⟨?_,S,Q⟩;rw[zb λz=>C (m.dj i j _ a _ s l hi d v g rfl (by rw[<-z];exact f))];exact e
   ·rw[zb (zj e (m.xd j r q (by rw[<-R];exact d) i _ _ l hi v rfl))];exact k.k y u e n
 ·rcases B e1 J with⟨rfl,rfl,rfl⟩|⟨C,d⟩
  ·rcases B g I with⟨rfl,_⟩|⟨K,w⟩
   ·rfl
   ·exact m.dj i G _ b _ t x hi w v I f1 f2
  ·rcases B g I with⟨rfl,rfl,rfl⟩|⟨K,w⟩
   ·exact m.dj j i a _ s _ x d hi J v f1 f2
   ·exact m.dj j G a b s t x d w J I f1 f2
 ·rcases zL e with⟨_,z⟩|⟨_,N⟩
  ·cases z
  ·rcases B e1 g with⟨rfl,rfl,rfl⟩|⟨_,d⟩
   ·exact m.xd j r q N i _ _ x hi v f
   ·exact m.xd j r q N G a s x d g f
 ·rw[zb (zj e O)];exact m.keep y o e n
 ·rw[zb (λz=>D (by rw[<-z];exact hy))];exact m.oex y hy
theorem M.wrOwn {F:Fr}{σ:St}{H:Hp}{i:Nat}{ds a:List PyData}{l:Addr}{ys:List V}(m:M F α σ H)(hi:α[i]?=some (some (.own ds)))(b:σ[i]?=some (some (.ref l)))(av:AVs (Gz F α σ H) ys a):
  M F (α.set i (some (.own a))) σ (upd H l (.lst ys)):=m.wrC hi b (.lst av)
theorem vk (i:Nat){x:Str}{ds:List PyData}{p1 p2 p3:Pos}(hi:α[i]?=some (some (.own ds)))(h:EvD X α e λd=>ds.length<1000/\SvS X (α.set i (some (.own (ds++[d])))) rest E)
  (s:X.N[i]?=some x:=by rfl) (o:Vis X.env.scope x:=by first|exact Or.inl rfl|exact Or.inr (Or.inl rfl)|exact Or.inr (Or.inr rfl)) (hd:(x == ("__debug__":Str))=false:=by decide) (f:(x == ("__classdict__":Str))=false:=by decide)
  (b:attributeBase (.Name x p1) "append" X.env (eval (.Name x p1) X.env)=eval (.Name x p1) X.env:=by rfl) (n:starEach [e] X.env=(false,eval e X.env)::starEach [] X.env:=by rfl)
  (hpl:((((backTo p3 (starEach [e] X.env)).all λx=>!x.fst)&&(backToKw p3 (keywordEach [] X.env)).all λx=>x.fst.isSome)&&decide (([e].length+([]:List Keyword).length+if([]:List Keyword).isEmpty=true then 0 else 1)<30))=true:=by rfl)
  (a:(p2.endLine == p3.line)=true:=by rfl) (g:swapsWith (.Call (.Attribute (.Name x p1) "append" p2) [e] [] p3) none pos.line X.env=pure false:=by rfl):SvS X α (.Expr (.Call (.Attribute (.Name x p1) "append" p2) [e] [] p3) pos::rest) E:=λF σ H D m r=>by
 obtain⟨l,xs,h1,h2,h3,q,u⟩:=m.own i ds hi;refine⟨_,zI (jE (kW PySem.F.plainAttrs_list PySem.F.slot_list_append PySem.F.type_list_append qG (xg s o hd f) (zr zf zD n) b hpl a n) g) zV,?_⟩;refine⟨.ref l,h1,.inl ⟨rfl,_,SqL.of h2⟩,?_⟩;refine h F σ H _ m λd v H1 k t1 j t=>?_;have m1:=m.kz j t1;refine⟨l,xs,v,rfl,rfl,j _ _ h2 (m.tp.nt q),by rw[h3.length];exact yw (z30 k.1),?_⟩;exact k.2 F σ _ D (m1.wrOwn hi h1 ((h3.same (j.gz m.tp)).append (.cons t .nil))) r
theorem zH4 (i:Nat){x:Str}{a:Expr}{ds:List PyData}{p1 p2:Pos}(hi:α[i]?=some (some (.own ds)))(h:EvD X α e λd=>EvD X α a λy=>∃k j,y=.int k/\ixN ds.length k=some j/\SvS X (α.set i (some (.own (ds.set j d)))) rest E)
  (J:X.N[i]?=some x:=by rfl) (C:Vis X.env.scope x:=by first|exact Or.inl rfl|exact Or.inr (Or.inl rfl)|exact Or.inr (Or.inr rfl)) (hd:(x == ("__debug__":Str))=false:=by decide) (s:(x == ("__classdict__":Str))=false:=by decide)
  (B:swapsWithSole [.Subscript (.Name x p1) a p2] e pos.line X.env=pure false:=by rfl) (hw:swappedStores [.Subscript (.Name x p1) a p2] e X.env=pure none:=by rfl)
  (ha:(assignEach [.Subscript (.Name x p1) a p2] X.env).map (·.2)=[assign (.Subscript (.Name x p1) a p2) X.env]:=by rfl) (g:PG X (.Subscript (.Name x p1) a p2) (zI9 (zz7 i) (uo X a) zs6):=by exact kx (xg rfl (by first|exact Or.inl rfl|exact Or.inr (Or.inl rfl)|exact Or.inr (Or.inr rfl))) zf set_list):
  SvS X α (.Assign [.Subscript (.Name x p1) a p2] e pos::rest) E:=λF σ H D m r=>by
 obtain⟨l,xs,h1,h2,h3,n,G⟩:=m.own i ds hi;refine⟨_,zI (mH zf g B hw ha) zV,?_⟩;refine h F σ H _ m λd v H1 u t1 f A=>?_;have m1:=m.kz f t1;refine⟨.ref l,h1,?_⟩;refine u F σ H1 _ m1 λy K I w o b z=>?_;have m2:=m1.kz b o;obtain⟨k,j,rfl,t,q⟩:=w;cases z.int_inv;refine⟨l,xs,k,j,rfl,rfl,b _ _ (f _ _ h2 (m.tp.nt n)) (m.tp.nt n),by rw[h3.length];exact t,?_⟩;exact q F σ _ D (m2.wrOwn hi h1 (((h3.same (f.gz m.tp)).same (b.gz m1.tp)).set (A.same (b.gz m1.tp)) j)) r
def uZ (X:Cx)(pat:Pat)(body rest:List Stmt)(E:xf):List PyData->Ev->Prop
 |[],α=>SvS X α rest E
 |d::ds,α=>∃a,pat.bind d α=some a/\SvS X a body {nx:=uZ X pat body rest E ds,ct:=uZ X pat body rest E ds,bk:=λb=>SvS X b rest E,rt:=E.rt}
theorem pQ {pat:Pat}(L:PassesOwn (model X.prog X.w) X.A X.env X.xe)(V:X.calm=true)(hg:PG X tg (nu X.K pat))(h:EvI X α tg iter λds=>uZ X pat body rest E ds α)
  (W:∀x,foldedSetIterable iter X.env x=pure x:=by intro _;rfl):SvS X α (.For tg iter body [] pos::rest) E:=λF σ H D m r=>by
 refine⟨_,zI (zF3 L V pJ hg zV W) zV,?_⟩;refine h F σ H _ m λds J H1 O t1 T B=>?_;have m1:=m.kz T t1;have Y:=m1.up;have u:oz (F.up (Gz F α σ H1)) E D:=r.up;refine⟨λi n j H'=>n=ds.length-i/\i<=ds.length/\∃b,M (F.up (Gz F α σ H1)) b j H'/\uZ X pat body rest E (ds.drop i) b,⟨ds.length,by simp,zY9 _,α,Y,O⟩,?_⟩;rintro i n j H' ⟨rfl,hi,b,k,lw⟩;obtain⟨P,I⟩:=B i H' _ (m1.upold k);by_cases d:i<ds.length
 ·have hd:ds[i]?=some ds[i]:=zX3 d;rw[z68 d]at lw;obtain⟨N,S,body⟩:=lw;obtain⟨go,Q⟩:=P _ hd;refine .inr ⟨go,λg s=>∃b,M (F.up (Gz F α σ H1)) b g s/\uZ X pat _ rest E (ds.drop (i+1)) b,λg s ⟨t,U,R⟩=>⟨ds.length-(i+1),(om0 d),rfl,d,t,U,R⟩,λx G y=>?_⟩;obtain⟨l,C⟩:=Q x G y;have m3:=k.kz (Kz.of_same l) (k.tp.same l);refine jT S m3 (C λa o _ e=>k.fresh e) λz m4=>?_;exact body _ z G _ m4 ⟨λf σ2 v m2 q=>⟨f,m2,q⟩,u.rt,λf σ2 v m2 q=>q _ σ2 v D m2 u,λf σ2 v m2 q=>⟨f,m2,q⟩⟩
 ·have e:i=ds.length:=(z69 hi (z66 d));subst e;rw[yb0]at lw;exact .inl ⟨I (zX7 _),lw _ j H' D k u⟩
theorem zP {pat:Pat}{ds:List PyData}(P:Nat->Ev->Prop)(h0:P 0 α)(j:∀i d α,ds[i]?=some d->P i α->∃f,pat.bind d α=some f/\SvS X f body {nx:=P (i+1),ct:=P (i+1),bk:=λg=>SvS X g rest E,rt:=E.rt})
  (hd:∀α,P ds.length α->SvS X α rest E):uZ X pat body rest E ds α:=by
 have key:∀n i α,n=ds.length-i->i<=ds.length->P i α->uZ X pat body rest E (ds.drop i) α:=by
  intro n
  induction n with
  |zero=>
   intro i α hn hi p;have e:i=ds.length:=(om5 hn hi);subst e;rw[yb0];exact hd α p
  |succ n h=>
   intro i α hn hi p;have a:i<ds.length:=(om6 hn);rw[z68 a];obtain⟨f,e,b⟩:=j i ds[i] α (zX3 a) p;exact⟨f,e,b.imp (λα p=>h (i+1) α (om7 hn) a p) (λ_ z=>z) (λ_ z=>z) (λα p=>h (i+1) α (om7 hn) a p)⟩
 exact key _ 0 α rfl (zY9 _) h0
end
end
section
variable {P:Program}{w:World}{K:PySem.W.Frag}{mg:Str->Option Value}{base:Heap}
theorem M.start {F:Fr}{N:List Str}{vs:List V}{as:List A}{H:Hp}(e:F.H0=H)(t:zG F H)(o:∀x,F.O0 x->∃u,H x=some u/\wF u)(k:yp F (sub (λx=>¬F.O0 x) H) vs as):
  M F (as.map some++List.replicate (N.length-as.length) none) (L2.start N vs) H:=by
 have n:=k.length;have g:∀{i:Nat} {a:A},(as.map some++List.replicate (N.length-as.length) none)[i]?=some (some a)->as[i]?=some a:=λ{i a} h=>by
  rcases z91 i as.length with z|z
  ·rw[z53 (by rw[zX0];exact z),zY3,zZ4]at h;obtain⟨b,h1,h2⟩:=h;cases h2;exact h1
  ·rw[z86 (by rw[zX0];exact z),z73]at h;split at h<;>cases h
 have at':∀{vs:List V} {as:List A} {i:Nat} {a:A},yp F (sub (λx=>¬F.O0 x) H) vs as->as[i]?=some a->∃v,vs[i]?=some v/\iO F (sub (λx=>¬F.O0 x) H) v a:=by
  intro vs as i a h
  induction h generalizing i with
  |nil=>intro e;simp at e
  |cons h r y=>
   intro e;cases i with
   |zero=>simp at e;subst e;exact⟨_,rfl,h⟩
   |succ i=>obtain⟨v,h1,h2⟩:=y (by simpa using e);exact⟨v,by simpa using h1,h2⟩
 have p:∀{i:Nat} {v:V},vs[i]?=some v->(L2.start N vs)[i]?=some (some v):=λ{i v} h=>by
  have hi:i<vs.length:=(zX5.mp h).1;unfold L2.start;rw[z53 (by rw[zX0];exact hi),zY3,h];rfl
 have no:∀(i:Nat) a,(as.map some++List.replicate (N.length-as.length) none)[i]?=some (some a)->(∃d,a=.dat d)\/a=.tape:=λi a z=>by
  obtain⟨v,_,h⟩:=at' k (g z);cases a with
  |dat d=>exact .inl ⟨d,rfl⟩
  |tape=>exact .inr rfl
  |_=>exact h.elim
 have B:zz (sub (λx=>¬F.O0 x) H) (Gz F (as.map some++List.replicate (N.length-as.length) none) (L2.start N vs) H):=zq λa o h e=>⟨λz=>z.elim h λl=>by
  obtain⟨i,b,s,e1,_,f⟩:=l;rcases no i b e1 with⟨d,rfl⟩|rfl
  ·exact f.elim
  ·exact f.elim,e⟩
 refine⟨by unfold L2.start;simp[n],λi a s e1 m=>?_,λi j a b s t x e1 _ _ _ f=>?_,λi r q z=>(by rcases no i _ z with⟨d,w⟩|w<;>cases w),t,λx o' h _=>by rw[<-e];exact h,o⟩
 ·obtain⟨v,h1,h2⟩:=at' k (g e1);rw[p h1]at m;cases m;rcases no i a e1 with⟨d,rfl⟩|rfl
  ·exact⟨v,rfl,AV.same B h2⟩
  ·obtain⟨t',b,c,h3,rfl⟩:=h2;exact⟨t',b,c,h3,rfl⟩
 ·rcases no i a e1 with⟨d,rfl⟩|rfl
  ·exact f.elim
  ·exact f.elim
theorem fnA {x qual:Str}{st:Stmt}{f:Addr}{fd:FuncData}{N ps:List Str}{k:Nat}{φ:List A->(A->Prop)->Prop}(G:Fun K x qual st f fd)(S:ya N ps (zg st))(hlen:∀as Q,φ as Q->as.length=ps.length)
  (c:∀(cdv:Value) (d:Around) (outer:List Env) (s:Shared) (H:Hp) (E:XK) (as:List A) (Q:A->Prop),zM k (d.deeper (envOfC qual (zg st) s.heap.objs.size f cdv))->φ as Q->
   SvS (wW CX0 P w K mg base N qual (zg st) f cdv d outer s H E).nox (as.map some++List.replicate (N.length-as.length) none) (zu st) {nx:=λ_=>Q (.dat .none),rt:=Q}):yC P w K mg base CX0 (k+1) f fd ps (spA φ):=by
 refine G.ok S (λvs H Q E h=>?_) (λcdv d outer s H vs l E hr h=>?_)
 ·obtain⟨F,as,i,_,_,_,g,b,_⟩:=h;rw[g.length,hlen as _ b]
 ·obtain⟨F,as,i,e,t,o,g,b,j⟩:=h;refine c cdv d outer s H E as i hr b F _ H _ (M.start e t o g) ⟨λα σ H' m q=>?_,λa v H' r q=>j a v H' q r,λ_ _ _ _ z=>z.elim,λ_ _ _ _ z=>z.elim⟩;exact j _ _ _ q ⟨m.tp,m.keep,.non⟩
end
section
variable {X:Cx}{pins:List (Addr×Obj)}{σ:St}{H:Hp}{s:Shared}{h':Heap}
theorem Inv.turnL {t':Nat}{ch:List Addr}(I:Inv X pins σ H s)(k:∀b o,b∉ch->s.heap.get? b=some o->h'.get? b=some o)(hf:∀b∈ch,yZ X pins H b):Inv X pins σ H {s with heap:=h',toks:=t'}:=by
 have d:∀b u,H b=some u->b∉ch:=λb u e z=>by rw[(hf b z).1]at e;cases e
 refine I.step (g':=s.gens) (d':=s.drawn) (ch:=ch) (λb hb=>?_) (λb o _ _ a e _=>k b o a e) (λb o _ _ a e _=>⟨o.slots,k b o a e⟩) (λ_ _ _ _ n=>n)
  (λb o a e=>⟨o,k b o a e⟩) (λ_ _ e=>e) (λ_ _ _ e=>e) (λb ps e=>⟨#[],by rw[e];simp⟩) (λm hm=>?_) (λb u e=>?_) I.bare
 ·obtain⟨_,f1,_,h,f4,i⟩:=hf b hb;exact⟨h,f1,f4,i⟩
 ·obtain⟨o,g,f,j,r⟩:=hm;exact⟨o,g,f,k _ o (λz=>(hf _ z).2.1 rfl) j,r⟩
 ·refine(I.hok b u e).stay (λc v a q=>k c v ?_ q) (λ_ q=>q) λ_ _ q=>q;rcases a with z|z
  ·rw[z];exact d b u e
  ·exact d c _ z
theorem Inv.turnLay {t':Nat}{ch:List Addr}{T:Addr}{o:HO}(I:Inv X pins σ H s)(k:∀b o,b∉ch->s.heap.get? b=some o->h'.get? b=some o)(hf:∀b∈ch,yZ X pins H b)(f:s.heap.objs.size<=T)(new:zE X.prog X.w (upd H T o) h' T o):
  Inv X pins σ (upd H T o) {s with heap:=h',toks:=t'}:=by
 have d:∀b u,H b=some u->b∉ch:=λb u e z=>by rw[(hf b z).1]at e;cases e
 have hn:H T=none:=I.hok.fresh f;have lt:∀{b:Addr} {u:Obj},s.heap.get? b=some u->b≠T:=λe=>zZ6 (zX4 (zY4 e) f);refine I.step (g':=s.gens) (d':=s.drawn) (ch:=ch) (λb hb=>?_) (λb o _ _ a e _=>k b o a e) (λb o _ _ a e _=>⟨o.slots,k b o a e⟩) (λb u _ e n=>by rw[zb (lt e)];exact n)
  (λb o a e=>⟨o,k b o a e⟩) (λb xs e=>by rw[zb (zj e hn)];exact e) (λb u xs e=>by rw[zb (zj e hn)];exact e) (λb ps e=>⟨#[],by rw[zb (zj e hn),e];simp⟩) (λm hm=>?_) (λb u e=>?_) I.bare
 ·obtain⟨_,f1,_,i,f4,j⟩:=hf b hb;exact⟨i,f1,f4,j⟩
 ·obtain⟨o,h,g,l,r⟩:=hm;exact⟨o,h,g,k _ o (λz=>(hf _ z).2.1 rfl) l,r⟩
 ·by_cases hb:b=T
  ·subst hb;rw[zi]at e;cases e;exact new
  ·rw[zb hb]at e;refine(I.hok b u e).stay (λc v a q=>k c v ?_ q) (λc q=>by rw[zb (zj q hn)];exact q) λc xs q=>by rw[zb (zj q hn)];exact q
   rcases a with z|z
   ·rw[z];exact d b u e
   ·exact d c _ z
end
theorem vW {a b:Nat}(h:a<b):(a:Addr)≠b:=zZ6 h
theorem bL {a b:Nat}(h:b<a):(a:Addr)≠b:=z80 h
theorem iP (n l1 l2:Nat)(h1:l1<n)(h2:l2<n):ZipApart (n+4) (n+2) (n+3) n (n+1) l1 l2 where
 TIz:=vW (a:=n+2) (b:=n+4) (by lia)
 TOz:=vW (a:=n+3) (b:=n+4) (by lia)
 i1z:=vW (a:=n) (b:=n+4) (by lia)
 i2z:=vW (a:=n+1) (b:=n+4) (by lia)
 TITO:=vW (a:=n+2) (b:=n+3) (by lia)
 TIi1:=bL (a:=n+2) (b:=n) (by lia)
 TIi2:=bL (a:=n+2) (b:=n+1) (by lia)
 TOi1:=bL (a:=n+3) (b:=n) (by lia)
 TOi2:=bL (a:=n+3) (b:=n+1) (by lia)
 i12:=vW (a:=n) (b:=n+1) (z34 _)
 l1z:=vW (a:=l1) (b:=n+4) (zX4 h1 (zY8 _ _))
 l1TO:=vW (a:=l1) (b:=n+3) (zX4 h1 (zY8 _ _))
 l1i1:=vW (a:=l1) (b:=n) (h1)
 l1i2:=vW (a:=l1) (b:=n+1) (zX4 h1 (zY8 _ _))
 l2z:=vW (a:=l2) (b:=n+4) (zX4 h2 (zY8 _ _))
 l2TO:=vW (a:=l2) (b:=n+3) (zX4 h2 (zY8 _ _))
 l2i1:=vW (a:=l2) (b:=n) (h2)
 l2i2:=vW (a:=l2) (b:=n+1) (zX4 h2 (zY8 _ _))
def Itz (K:PySem.W.Frag)(l1 l2:Addr):It:=
 ⟨λi H=>∃xs ys x y,SqL K H l1 xs/\SqL K H l2 ys/\xs[i]?=some x/\ys[i]?=some y,
  λi H v H'=>∃T x y,v=.ref T/\H T=none/\H'=upd H T (.tup [x,y])/\(∀xs,SqL K H l1 xs->xs[i]?=some x)/\∀ys,SqL K H l2 ys->ys[i]?=some y,
  λi H=>∃xs ys,SqL K H l1 xs/\SqL K H l2 ys/\(xs.length<=i\/ys.length<=i)⟩
def Ite (K:PySem.W.Frag)(l:Addr):It:=
 ⟨λi H=>∃xs x,SqL K H l xs/\xs[i]?=some x,
  λi H v H'=>∃T x,v=.ref T/\H T=none/\H'=upd H T (.tup [.int i,x])/\∀xs,SqL K H l xs->xs[i]?=some x,
  λi H=>∃xs,SqL K H l xs/\xs.length<=i⟩
theorem bU {P:Program}{w:World}{K:PySem.W.Frag}{elts:List Expr}{kk:Nat}{pos:Pos}{z TI TO i1 i2 l1 l2:Addr}(D:ZipApart z TI TO i1 i2 l1 l2):
  Turn P w K (.Tuple elts kk pos) (Itz K l1 l2) [z,TI,TO,i1,i2] z (λi h=>IsZip h z TI TO .none/\IsPair h TI (.ref i1) (.ref i2)/\(∃a b,IsPair h TO a b)/\h.IsListIter i1 l1 i/\h.IsListIter i2 l2 i) where
 mem:=by simp
 obj:=λi h st b hb=>by
  obtain⟨h1,h2,⟨a,c,h3⟩,⟨O,e1,_,d1⟩,⟨N,t,_,d2⟩⟩:=st;simp only[zX6,zZ1,z08]at hb;rcases hb with rfl|rfl|rfl|rfl|rfl
  ·exact⟨_,h1,λv z=>by cases(show Data.fields _=Data.cell v from z)⟩
  ·exact⟨_,h2,λv z=>by cases(show Data.seq _ _=Data.cell v from z)⟩
  ·exact⟨_,h3,λv z=>by cases(show Data.seq _ _=Data.cell v from z)⟩
  ·exact⟨O,e1,λv z=>by rw[d1]at z;cases z⟩
  ·exact⟨N,t,λv z=>by rw[d2]at z;cases z⟩
 keep:=λi h h' st k=>by
  obtain⟨h1,h2,⟨a,c,h3⟩,m,l⟩:=st;exact⟨k z (by simp) _ h1,k TI (by simp) _ h2,⟨a,c,k TO (by simp) _ h3⟩,m.at λo e=>k i1 (by simp) o e,l.at λo e=>k i2 (by simp) o e⟩
 item:=by
  intro X F hw G S i pins s σ H E I hf st hg;subst F hw G;obtain⟨xs,ys,x,y,f,d,R,hy⟩:=hg;obtain⟨q,j,p1,L⟩:=I.list f;obtain⟨r,g,p2,C⟩:=I.list d;obtain⟨u,hu,Y⟩:=j.get R;obtain⟨v,V,rv⟩:=g.get hy;obtain⟨h1,h2,⟨a,c,h3⟩,m,l⟩:=st;refine wpAny_pyNext_zip_item D h1 h2 h3 m l p1.isList p2.isList (x:=u) (y:=v) (by simpa using hu) (by simpa using V) λh' a1 a2 a3 a4 a5 a6 hk=>⟨_,rfl,?_⟩;refine wpAny_letOwnedTupleGo_zip (s:={s with heap:=h'}) a1 λp U n=>?_;have B:s.heap.objs.size≠z:=z80 (zY4 h1);have M:∀b o,b∉[z,TI,TO,i1,i2]->s.heap.get? b=some o->p.get? b=some o:=λb o hb e=>by
   simp only[zX6,zZ1,z08,not_or]at hb;exact n.extBut _ _ hb.1 (hk b o hb.1 hb.2.2.1 hb.2.2.2.1 hb.2.2.2.2 e)
  have gT:p.get? s.heap.objs.size=some {cls:=.type "tuple",data:=.seq #[u,v]}:=n.extBut _ _ B a5;have J:=I.turnLay (t':=s.toks) (T:=s.heap.objs.size) (o:=.tup [x,y]) M hf (zX7 _) ⟨by show 2<=sizeLine;decide,[u,v],.cons Y (.cons rv .nil),_,gT,rfl,0,rfl⟩;refine⟨.ref s.heap.objs.size,_,J,rfl,⟨_,x,y,rfl,I.hok.fresh (zX7 _),rfl,λzs hz=>by rw[I.list_inj hz f];exact R,λzs hz=>by rw[I.list_inj hz d];exact hy⟩,⟨U,n.extBut _ _ D.TIz (hk _ _ D.TIz D.TITO D.TIi1 D.TIi2 h2),⟨u,v,n.extBut _ _ D.TOz a2⟩,a3.extBut n.extBut D.i1z,a4.extBut n.extBut D.i2z⟩,λb hb=>?_⟩;rw[zb]
  ·exact(hf b hb).1
  ·obtain⟨o,e,_⟩:=(show ∃o,s.heap.get? b=some o/\True from by
    simp only[zX6,zZ1,z08]at hb;obtain⟨O,e1,_⟩:=m;obtain⟨N,t,_⟩:=l;rcases hb with rfl|rfl|rfl|rfl|rfl
    ·exact⟨_,h1,trivial⟩
    ·exact⟨_,h2,trivial⟩
    ·exact⟨_,h3,trivial⟩
    ·exact⟨_,e1,trivial⟩
    ·exact⟨_,t,trivial⟩)
   exact zZ6 (zY4 e)
 done:=by
  intro X F hw G S i pins s σ H E I hf st hg;subst F hw G;obtain⟨xs,ys,f,d,Z⟩:=hg;obtain⟨q,j,p1,L⟩:=I.list f;obtain⟨r,g,p2,C⟩:=I.list d;obtain⟨h1,h2,⟨a,c,h3⟩,m,l⟩:=st;have e1:=j.length;have t:=g.length;refine wpAny_pyNext_zip_end (I.ok.hd S) D h1 h2 h3 m l p1.isList p2.isList (Z.imp (λz=>by simp;exact zY1 (zZ3 e1.symm) z) λz=>by simp;exact zY1 (zZ3 t.symm) z) λh' hk=>⟨rfl,?_⟩;exact I.turnL (t':=s.toks) (ch:=[z,TI,TO,i1,i2]) (λb o hb e=>by
   simp only[zX6,zZ1,z08,not_or]at hb;exact hk b o hb.1 hb.2.2.1 hb.2.2.2.1 hb.2.2.2.2 e) hf
 self:=λA i s Q E st h=>wpAny_pyIter_zip st.1 h
theorem gD {P:Program}{w:World}{K:PySem.W.Frag}{elts:List Expr}{R:Nat}{pos:Pos}{e it l:Addr}(hne:e≠it):
  Turn P w K (.Tuple elts R pos) (Ite K l) [e,it] e (λi h=>(∃old,IsEnum h e it i old)/\h.IsListIter it l i) where
 mem:=by simp
 obj:=λi h st b hb=>by
  obtain⟨⟨old,h1⟩,⟨y,e1,_,M⟩⟩:=st;simp only[zX6,zZ1,z08]at hb;rcases hb with rfl|rfl
  ·exact⟨_,h1,λv z=>by cases(show Data.fields _=Data.cell v from z)⟩
  ·exact⟨y,e1,λv z=>by rw[M]at z;cases z⟩
 keep:=λi h h' st k=>by
  obtain⟨⟨old,h1⟩,c⟩:=st;exact⟨⟨old,k e (by simp) _ h1⟩,c.at λo q=>k it (by simp) o q⟩
 item:=by
  intro X t hw m C i pins s σ H E I hf st hg;subst t hw m;obtain⟨xs,x,a,B⟩:=hg;obtain⟨g,d,p1,n⟩:=I.list a;obtain⟨u,O,G⟩:=d.get B;obtain⟨⟨old,h1⟩,c⟩:=st;refine wpAny_pyNext_enum_item h1 c p1.isList (x:=u) (by simpa using O) hne λh' a1 S L U hk=>⟨_,rfl,?_⟩;refine wpAny_letOwnedTupleGo_enum (s:={s with heap:=h',toks:=s.toks+1}) a1 λf D r=>?_;have j:s.heap.objs.size≠e:=z80 (zY4 h1);have p:∀b o,b∉[e,it]->s.heap.get? b=some o->f.get? b=some o:=λb o hb q=>by
   simp only[zX6,zZ1,z08,not_or]at hb;exact r.extBut _ _ hb.1 (hk b o hb.1 hb.2 q)
  have F:f.get? s.heap.objs.size=some {cls:=.type "tuple",data:=.seq #[.int i s.toks,u]}:=r.extBut _ _ j L;have J:=I.turnLay (t':=s.toks+1) (T:=s.heap.objs.size) (o:=.tup [.int i,x]) p hf (zX7 _) ⟨by show 2<=sizeLine;decide,[.int i s.toks,u],.cons ⟨_,rfl⟩ (.cons G .nil),_,F,rfl,0,rfl⟩;refine⟨.ref s.heap.objs.size,_,J,rfl,⟨_,x,rfl,I.hok.fresh (zX7 _),rfl,λzs hz=>by rw[I.list_inj hz a];exact B⟩,⟨⟨u,by simpa using D⟩,S.extBut r.extBut hne.symm⟩,λb hb=>?_⟩;rw[zb]
  ·exact(hf b hb).1
  ·obtain⟨o,q,_⟩:=(show ∃o,s.heap.get? b=some o/\True from by
    simp only[zX6,zZ1,z08]at hb;obtain⟨y,e1,_⟩:=c;rcases hb with rfl|rfl
    ·exact⟨_,h1,trivial⟩
    ·exact⟨_,e1,trivial⟩)
   exact zZ6 (zY4 q)
 done:=by
  intro X t hw m C i pins s σ H E I hf st hg;subst t hw m;obtain⟨xs,a,N⟩:=hg;obtain⟨g,d,p1,n⟩:=I.list a;obtain⟨⟨old,h1⟩,c⟩:=st;have e1:=d.length;refine wpAny_pyNext_enum_end (I.ok.hd C) h1 c p1.isList (by simp;exact zY1 (zZ3 e1.symm) N) λh' hk=>⟨rfl,?_⟩;exact I.turnL (t':=s.toks) (ch:=[e,it]) (λb o hb q=>by
   simp only[zX6,zZ1,z08,not_or]at hb;exact hk b o hb.2 q) hf
 self:=λA i s Q E st h=>by
  obtain⟨⟨old,h1⟩,c⟩:=st;exact wpAny_pyIter_enum h1 h
section
variable {X:Cx}{α:Ev}{elts:List Expr}{kk:Nat}{tp p pos:Pos}{a b:Expr}
def zU2 (K:PySem.W.Frag)(c:TA):TI:=λσ H R=>c σ H λvs H1=>∃l1 l2,vs=[.ref l1,.ref l2]/\(∃xs,SqL K H1 l1 xs)/\(∃ys,SqL K H1 l2 ys)/\R (Itz K l1 l2) H1
theorem zC3 {r:TA}(hg:Gl X "zip")(hm:X.mg "zip"=none)(ha:PA X [a,b] r)(J:starEach [a,b] X.env=[(false,eval a X.env),(false,eval b X.env)]:=by rfl)(f:starEach [b] X.env=[(false,eval b X.env)]:=by rfl):
  PI X (.Tuple elts kk tp) (.Call (.Name "zip" p) [a,b] [] pos) (zU2 X.K r):=by
 intro pins s σ H R I h;refine Call_ (yO I hg hm boot_zip (z21 (thn (ha pos pins s σ H _ I h) λus s1 ⟨vs,H1,c,L,y⟩=>?_) (by rw[J,f]) (by rw[f];rfl)));obtain⟨l1,l2,e,⟨xs,k⟩,⟨ys,i⟩,q⟩:=y;subst e;obtain⟨u,v,rfl,w,A⟩:=Vals.two L;cases(show u=Value.ref l1 from w);cases(show v=Value.ref l2 from A);obtain⟨l,B,p1,F⟩:=c.list k;obtain⟨m,x,p2,G⟩:=c.list i;refine call_zip_2 p1.isList p2.isList λh' t E z3 M C N hk=>?_;refine wpAny_pyIter_zip (s:={s1 with heap:=h'}) t ?_;have g:l1<s1.heap.objs.size:=by obtain⟨o,e,_⟩:=p1.isList;exact zY4 e
 have j:l2<s1.heap.objs.size:=by obtain⟨o,e,_⟩:=p2.isList;exact zY4 e
 have fr:∀n,H1 (s1.heap.objs.size+n)=none:=λn=>c.hok.fresh (zY8 _ _);have D:ZipApart (s1.heap.objs.size+4) (s1.heap.objs.size+2) (s1.heap.objs.size+3) s1.heap.objs.size (s1.heap.objs.size+1) l1 l2:=iP _ _ _ g j;refine⟨_,_,_,_,H1,rfl,c.kept (t':=s1.toks) λb o e=>hk b o e,bU D,⟨t,E,⟨_,_,z3⟩,M,C⟩,λb hb=>?_,q⟩;simp only[zX6,zZ1,z08]at hb;have d:s1.heap.objs.size<=b:=by
  have key:∀n b:Nat,n=s1.heap.objs.size->(b=n+4\/b=n+2\/b=n+3\/b=n\/b=n+1)->n<=b:=λn b _ h=>by lia
  exact key _ _ rfl (by rcases hb with z|z|z|z|z<;>simp[z])
 exact c.fpOk d (c.hok.fresh d)
def zL9 (K:PySem.W.Frag)(c:TA):TI:=λσ H R=>c σ H λvs H1=>∃l,vs=[.ref l]/\(∃xs,SqL K H1 l xs)/\R (Ite K l) H1
theorem zh0 {j:TA}(hg:Gl X "enumerate")(hm:X.mg "enumerate"=none)(ha:PA X [a] j)(v:starEach [a] X.env=[(false,eval a X.env)]:=by rfl):
  PI X (.Tuple elts kk tp) (.Call (.Name "enumerate" p) [a] [] pos) (zL9 X.K j):=by
 intro pins s σ H R I h;refine Call_ (yO I hg hm boot_enumerate (z21 (thn (ha pos pins s σ H _ I h) λus s1 g=>?_) v rfl));obtain⟨vs,H1,d,w,m⟩:=g;obtain⟨l1,e,⟨xs,f⟩,q⟩:=m;subst e;obtain⟨u,rfl,l⟩:=Vals.one w;cases(show u=Value.ref l1 from l);obtain⟨i,r,p1,t⟩:=d.list f;refine call_enumerate_list p1.isList λh' k x y hk=>?_;refine wpAny_pyIter_enum (s:={s1 with heap:=h'}) k ?_;refine⟨_,_,_,_,H1,rfl,d.kept (t':=s1.toks) λb o e=>hk b o e,gD (bL (a:=s1.heap.objs.size+1) (b:=s1.heap.objs.size) (z34 _)),⟨⟨_,k⟩,x⟩,λb hb=>?_,q⟩;simp only[zX6,zZ1,z08]at hb;have c:s1.heap.objs.size<=b:=by
  have key:∀n b:Nat,n=s1.heap.objs.size->(b=n+1\/b=n)->n<=b:=λn b _ h=>by lia
  exact key _ _ rfl hb
 exact d.fpOk c (d.hok.fresh c)
def fC (ds c:List PyData):List PyData:=List.zipWith (λd e=>.tuple [d,e]) ds c
theorem aE {Q:List PyData->Prop}(hg:Gl X "zip")(hm:X.mg "zip"=none)(h:EvD X α a λx=>EvD X α b λy=>∃ds j,x=.list ds/\y=.list j/\Q (fC ds j))
  (U:starEach [a,b] X.env=[(false,eval a X.env),(false,eval b X.env)]:=by rfl) (f:starEach [b] X.env=[(false,eval b X.env)]:=by rfl) (u:starEach [a,b] X.env=(false,eval a X.env)::starEach [b] X.env:=by rfl):
  EvI X α (.Tuple elts kk tp) (.Call (.Name "zip" p) [a,b] [] pos) Q:=λF σ H R m k=>by
 refine⟨_,zC3 hg hm (zr zf (zr zf zD f) u) U f,?_⟩;refine h F σ H _ m λx Y H1 L t1 G P=>?_;have m1:=m.kz G t1;refine L F σ H1 _ m1 λy Z B N J z O=>?_;obtain⟨ds,j,rfl,rfl,q⟩:=N;obtain⟨l1,xs,rfl,g1,g2⟩:=(P.same (z.gz m1.tp)).lst_inv;obtain⟨l2,ys,rfl,g3,C⟩:=O.lst_inv;refine⟨l1,l2,rfl,⟨xs,SqL.of (zc g1).2⟩,⟨ys,SqL.of (zc g3).2⟩,k _ _ B q J (G.trans z) λi M p s=>⟨λd hd=>?_,λA=>?_⟩⟩
 ·have s1:=SqL.of (K:=X.K) (zc (s _ _ g1)).2;have s2:=SqL.of (K:=X.K) (zc (s _ _ g3)).2;unfold fC at hd;rw[List.getElem?_zipWith]at hd;cases e1:ds[i]? with
  |none=>rw[e1]at hd;cases hd
  |some V=>
   cases e2:j[i]? with
   |none=>rw[e1,e2]at hd;cases hd
   |some W=>
    rw[e1,e2]at hd;cases hd;obtain⟨E,g,r⟩:=g2.get e1;obtain⟨w,c,t⟩:=C.get e2;refine⟨⟨xs,ys,E,w,s1,s2,g,c⟩,λv H4 y=>?_⟩;obtain⟨T,x,y,rfl,n,rfl,l,hy⟩:=y;have l:=l _ s1;have hy:=hy _ s2;rw[g]at l;cases l;rw[c]at hy;cases hy;refine⟨ye n,λfr=>?_⟩;have I:zz (Gz F α σ B) (sub p (upd M T (.tup [E,w]))):=λa o e=>by
     obtain⟨S,D⟩:=zc (s a o e);exact zA S (by rw[zb (zj D n)];exact D)
    exact .tup (zA (fr T _ zi n) zi) (.cons (r.same I) (.cons (t.same I) .nil))
 ·refine⟨xs,ys,SqL.of (zc (s _ _ g1)).2,SqL.of (zc (s _ _ g3)).2,?_⟩;unfold fC at A;rw[List.length_zipWith,<-g2.length,<-C.length]at A
  lia
def uY (n:Nat):List PyData->List PyData
 |[]=>[]
 |d::ds=>.tuple [.int n,d]::uY (n+1) ds
theorem xt :∀{ds:List PyData}{n i:Nat}{d:PyData},(uY n ds)[i]?=some d->∃e,ds[i]?=some e/\d=.tuple [.int ((n+i:Nat):Int),e]
 |[],n,i,d,h=>by simp[uY]at h
 |e::ds,n,0,d,h=>by simp[uY]at h;exact⟨e,rfl,by simp[<-h]⟩
 |e::ds,n,i+1,d,h=>by
  simp only[uY,yd6]at h;obtain⟨c,h1,h2⟩:=xt h;exact⟨c,by simpa using h1,by rw[h2,Nat.add_assoc,Nat.add_comm 1 i]⟩
theorem xr :∀(ds:List PyData) (n:Nat),(uY n ds).length=ds.length
 |[],_=>rfl
 |_::ds,n=>by simp[uY,xr ds (n+1)]
theorem tH {Q:List PyData->Prop}(hg:Gl X "enumerate")(hm:X.mg "enumerate"=none)(h:EvD X α a λx=>∃ds,x=.list ds/\Q (uY 0 ds))(t:starEach [a] X.env=[(false,eval a X.env)]:=by rfl):
  EvI X α (.Tuple elts kk tp) (.Call (.Name "enumerate" p) [a] [] pos) Q:=λF σ H R m k=>by
 refine⟨_,zh0 hg hm (zr zf zD t) t,?_⟩;refine h F σ H _ m λx D H1 u t1 z A=>?_;obtain⟨ds,rfl,q⟩:=u;obtain⟨l1,xs,rfl,g1,g2⟩:=A.lst_inv;refine⟨l1,rfl,⟨xs,SqL.of (zc g1).2⟩,k _ _ H1 q t1 z λi w p s=>⟨λd hd=>?_,λl=>?_⟩⟩
 ·have s1:=SqL.of (K:=X.K) (zc (s _ _ g1)).2;obtain⟨e,he,rfl⟩:=xt hd;obtain⟨r,c,j⟩:=g2.get he;refine⟨⟨xs,r,s1,c⟩,λv E y=>?_⟩;obtain⟨T,x,rfl,g,rfl,f⟩:=y;have f:=f _ s1;rw[c]at f;cases f;refine⟨ye g,λfr=>?_⟩;have C:zz (Gz F α σ H1) (sub p (upd w T (.tup [.int i,r]))):=λa o e=>by
   obtain⟨B,n⟩:=zc (s a o e);exact zA B (by rw[zb (zj n g)];exact n)
  refine .tup (zA (fr T _ zi g) zi) (.cons ?_ (.cons (j.same C) .nil));rw[Nat.zero_add];exact .int _
 ·refine⟨xs,SqL.of (zc (s _ _ g1)).2,?_⟩;rw[xr,<-g2.length]at l;exact l
end
structure Cal (P:Program)(w:World)(K:PySem.W.Frag)(mg:Str->Option Value)(base:Heap)(x:Str)(k:Nat)(φ:List A->(A->Prop)->Prop):Prop where
 ex:∃f fd ps,mg x=some (.ref f)/\PySem.W.keepIn K (.ref f)=true/\Binds K fd ps []/\yC P w K mg base CX0 k f fd ps (spA φ)
section
variable {X:Cx}{α:Ev}{e a b:Expr}{es:List Expr}{pos p:Pos}{Q:PyData->Prop}{k:Nat}{φ:List A->(A->Prop)->Prop}{x:Str}
theorem vA (C:Cal X.prog X.w X.K X.mg X.base x k φ)(hr:zM k X.A)(hg:Gl X x)(h:EvA X α (e::es) λas=>φ as λa=>Q a.d)
  (c:(x == ("__debug__":Str))=false:=by decide) (he:starEach (e::es) X.env=(false,eval e X.env)::starEach es X.env:=by rfl) (hpl:(backTo pos (starEach es X.env)).any (·.1)=false:=by rfl):EvD X α (.Call (.Name x p) (e::es) [] pos) Q:=by
 obtain⟨f,fd,ps,h1,h2,h3,g⟩:=C.ex;exact ze6 g hr hg h1 h2 h3 h c he hpl
theorem wJ {Q:List PyData->Prop}(C:Cal X.prog X.w X.K X.mg X.base x k φ)(hr:zM k X.A)(hg:Gl X x)(h:EvA X α (e::es) λas=>φ as λa=>∃ds,a=.own ds/\Q ds)
  (c:(x == ("__debug__":Str))=false:=by decide) (he:starEach (e::es) X.env=(false,eval e X.env)::starEach es X.env:=by rfl) (hpl:(backTo pos (starEach es X.env)).any (·.1)=false:=by rfl):EvL X α (.Call (.Name x p) (e::es) [] pos) Q:=by
 obtain⟨f,fd,ps,h1,h2,h3,d⟩:=C.ex;exact zd7 d hr hg h1 h2 h3 h c he hpl
end
section
variable {P:Program}{w:World}{K:PySem.W.Frag}{mg:Str->Option Value}{base:Heap}
theorem zS2 {x qual:Str}{st:Stmt}{f:Addr}{fd:FuncData}{N ps:List Str}{k:Nat}{φ:List A->(A->Prop)->Prop}(G:Fun K x qual st f fd)(hm:mg x=some (.ref f))(hb:Binds K fd ps [])(S:ya N ps (zg st))(hlen:∀as Q,φ as Q->as.length=ps.length)
  (a:∀(cdv:Value) (b:Around) (outer:List Env) (s:Shared) (H:Hp) (E:XK) (as:List A) (Q:A->Prop),zM k (b.deeper (envOfC qual (zg st) s.heap.objs.size f cdv))->φ as Q->
   SvS (wW CX0 P w K mg base N qual (zg st) f cdv b outer s H E).nox (as.map some++List.replicate (N.length-as.length) none) (zu st) {nx:=λ_=>Q (.dat .none),rt:=Q}):Cal P w K mg base x (k+1) φ:=
 ⟨f,fd,ps,hm,G.kp,hb,fnA G S hlen a⟩
theorem Cal.imp {x:Str}{k:Nat}{φ i:List A->(A->Prop)->Prop}(C:Cal P w K mg base x k φ)(h:∀as Q,i as Q->φ as Q):Cal P w K mg base x k i:=by
 obtain⟨f,fd,ps,h1,h2,h3,m⟩:=C.ex;exact⟨f,fd,ps,h1,h2,h3,m.imp λvs H Q E j=>by obtain⟨F,as,l,a,b,c,d,e,g⟩:=j;exact⟨F,as,l,a,b,c,d,h _ _ e,g⟩⟩
def xC :List A->(A->Prop)->Prop:=λas Q=>∃n:Int,as=[.tape,.dat (.int n)]/\0<n/\n<big/\∀v,0<=v->v<n->Q (.dat (.int v))
theorem zb5 {f:Addr}{fd:FuncData}{x:Str}(hm:mg x=some (.ref f))(hk:PySem.W.keepIn K (.ref f)=true)(hb:Binds K fd ["_law_tape_here","_law_many"] [])(G:yC P w K mg base CX0 1 f fd ["_law_tape_here","_law_many"] dI):Cal P w K mg base x 1 xC:=by
 refine⟨f,fd,_,hm,hk,hb,G.imp λvs H Q E h=>?_⟩;obtain⟨F,as,m,rfl,t,o,g,⟨n,rfl,h0,h1,hq⟩,l⟩:=h;cases g with
 |cons a1 r=>
  obtain⟨a,b,c,e,rfl⟩:=a1;obtain⟨v,rfl,av⟩:=r.one;cases av.int_inv;refine⟨a,b,c,n,rfl,(t a b c e).1,h0,h1,λz H' i k TA off=>l _ _ _ (hq z i k) ⟨⟨(by
   obtain⟨_,_,_,_,e1,j,_⟩:=(t a b c e).1.ex;exact zn5 t.tab e1 j off),t.ot,λt' p c' d=>?_⟩,λy u hy n=>?_,.int z⟩⟩
  ·rw[e]at d;cases d;exact⟨TA,(t a b c e).2⟩
  ·rw[off y (n.1 _ _ _ e).1 (n.1 _ _ _ e).2];exact hy
theorem M.tape {H:Hp}{t b c:Addr}{α:Ev}{σ:St}(T:yz H t b c)(g:TabAt H)(m:α.length=σ.length)(h:∀(i:Nat) a,α[i]?=some (some a)->a=.tape/\σ[i]?=some (some (.ref t))):M ⟨H,λx=>x=t\/x=b\/x=c\/sS x,some (t,b,c)⟩ α σ H:=by
 refine⟨m,λi a s e1 d=>?_,λi j a b s u x e1 _ _ _ f=>?_,λi r q e=>?_,⟨g,λx z=>.inr (.inr (.inr z)),λt' p c' e=>?_⟩,λ_ _ e _=>e,λx l=>?_⟩
 ·obtain⟨rfl,z⟩:=h i a e1;rw[z]at d;cases d;exact⟨t,b,c,rfl,rfl⟩
 ·obtain⟨rfl,_⟩:=h i a e1;exact f.elim
 ·cases(h i _ e).1
 ·cases e;exact⟨T,.inl rfl,.inr (.inl rfl),.inr (.inr (.inl rfl))⟩
 ·obtain⟨n,bs,cs,_,e1,d,k,_⟩:=T.ex;rcases l with rfl|rfl|rfl|z
  ·exact⟨_,e1,yQ⟩
  ·exact⟨_,d,yQ⟩
  ·exact⟨_,k,yQ⟩
  ·obtain⟨o,h1,h2,_⟩:=qT g z;exact⟨o,h1,h2⟩
theorem zS9 {st:Stmt}{f fT:Addr}{fd j:FuncData}{g:List Str}{k:Nat}{p1 p2 p3 p4 p5:Pos}{rest:List Stmt}(G:Fun K "law" "law" st f fd)(S:ya ("_law_script"::"_law_tape_here"::g) ["_law_script"] (zg st))
  (GT:yC P w K mg base CX0 1 fT j ["_law_script"] (lQ K)) (q:mg "_law_tape"=some (.ref fT)) (p:PySem.W.keepIn K (.ref fT)=true) (B:Binds K j ["_law_script"] [])
  (hb:zu st=.Assign [.Name "_law_tape_here" p1] (.Call (.Name "_law_tape" p2) [.Name "_law_script" p3] [] p4) p5::rest) (hgl:(zg st).names.lookup ("_law_tape":Str)=some .globalImplicit) (n:Loc (zg st) "_law_tape_here") (m:Vis (zg st) "_law_script")
  (d:∀(cdv:Value) (l:Around) (outer:List Env) (s:Shared) (H:Hp) (E:XK),zM (k+1) (l.deeper (envOfC "law" (zg st) s.heap.objs.size f cdv))->
   SvS (wW CX0 P w K mg base ("_law_script"::"_law_tape_here"::g) "law" (zg st) f cdv l outer s H E).nox (none::some .tape::List.replicate g.length none) rest {nx:=λ_=>False,rt:=λa=>a=.dat (.bool true)}):
  yC P w K mg base CX0 (k+1+1) f fd ["_law_script"] (ml K):=by
 refine G.ok S (λvs H Q E h=>?_) (λcdv l outer s H vs D E hr h=>?_)
 ·obtain⟨a,ns,rfl,_⟩:=h;rfl
 ·obtain⟨a,ns,rfl,u,hn,y,C⟩:=h;rw[hb];refine xm (λσ H1=>∃t b c,yz H1 t b c/\TabAt H1/\σ=some (.ref a)::some (.ref t)::List.replicate g.length none)
   ⟨_,wg (i:=1) S.nd rfl n (pC GT (hr.mono (Nat.le_add_left _ _)) hgl q p B .nil rL (zr (xg (i:=0) rfl m) zD)) (hf:=.inl rfl),?_⟩ ?_
  ·refine⟨.ref a,rfl,a,ns,rfl,u,hn,λt b c H' T _ _ _ A=>⟨t,b,c,T,aO y A,?_⟩⟩;show((L2.start ("_law_script"::"_law_tape_here"::g) [.ref a]).set 1 (some (.ref t)))=_;unfold L2.start;simp[List.replicate_succ]
  ·rintro σ H1 ⟨t,b,c,T,o,rfl⟩;refine d cdv l outer s H E hr ⟨H1,λx=>x=t\/x=b\/x=c\/sS x,some (t,b,c)⟩ _ H1 _ (M.tape T o (by simp) λi z e=>?_) ⟨λ_ _ _ _ z=>z.elim,λz v H' r e=>?_,λ_ _ _ _ z=>z.elim,λ_ _ _ _ z=>z.elim⟩
   ·cases i with
    |zero=>simp at e
    |succ i=>
     cases i with
     |zero=>simp at e;subst e;exact⟨rfl,rfl⟩
     |succ i=>
      simp only[yd6,z73]at e;split at e<;>cases e
   ·cases e;obtain⟨_,_,r⟩:=r;rw[AV.bl_inv r];exact C H'
end
section
variable {Y:Addr->Shared->Hp->List Addr->Cx}{pat:Pat}{ifs:List Expr}{elt:Expr}{α0:Ev}
theorem fQ {ds acc:List PyData}{Q:List PyData->Prop}(P:Nat->List PyData->Prop)(h0:P 0 acc)
  (h:∀i d acc,ds[i]?=some d->P i acc->∃a,pat.bind d α0=some a/\∀C s2 f fp,gC (Y C s2 f fp) a ifs λk=>if k=true then ∀C s2 f fp,EvD (Y C s2 f fp) a elt λy=>P (i+1) (acc++[y])else P (i+1) acc)
  (hd:∀acc,P ds.length acc->Q acc):yX Y pat ifs elt α0 ds acc Q:=by
 have key:∀n i acc,n=ds.length-i->i<=ds.length->P i acc->yX Y pat ifs elt α0 (ds.drop i) acc Q:=by
  intro n
  induction n with
  |zero=>
   intro i acc hn hi p;have e:i=ds.length:=(om5 hn hi);subst e;rw[yb0];exact hd acc p
  |succ n g=>
   intro i acc hn hi p;have c:i<ds.length:=(om6 hn);rw[z68 c];obtain⟨a,e,b⟩:=h i ds[i] acc (zX3 c) p;refine⟨a,e,λC s2 f fp F σ H R m j=>b C s2 f fp F σ H R m λk H' q=>j k H' ?_⟩;cases k with
   |true=>
    rw[if_pos rfl]at q ⊢;exact λC s2 f fp=>(q C s2 f fp).imp λy p=>g (i+1) _ (om7 hn) c p
   |false=>
    rw[if_neg (by decide)]at q ⊢;exact g (i+1) _ (om7 hn) c q
 exact key _ 0 acc rfl (zY9 _) h0
theorem vN {ds acc:List PyData}{Q:List PyData->Prop}(p:PyData->Bool)(f:PyData->PyData)
  (g:∀d∈ds,∃a,pat.bind d α0=some a/\(∀C s2 b fp (Q:Bool->Prop),Q (p d)->gC (Y C s2 b fp) a ifs Q)/\(p d=true->∀C s2 b fp (Q:PyData->Prop),Q (f d)->EvD (Y C s2 b fp) a elt Q))
  (hd:Q (acc++(ds.filter p).map f)):yX Y pat ifs elt α0 ds acc Q:=by
 induction ds generalizing acc with
 |nil=>
  show Q acc;simpa using hd
 |cons d ds h=>
  obtain⟨a,e,h1,h2⟩:=g d zX9;refine⟨a,e,λC s2 b fp=>h1 C s2 b fp _ ?_⟩;have c:=λacc=>h (acc:=acc) λd hd=>g d (zX8 _ hd);cases hp:p d with
  |true=>
   rw[if_pos rfl];refine λC s2 b fp=>h2 hp C s2 b fp _ (c _ ?_);simpa[yb1,hp]using hd
  |false=>
   rw[if_neg (by decide)];refine c _ ?_;simpa[yb1,hp]using hd
end
theorem zt6 {ds:List PyData}{v:Int}(h0:0<=v)(h1:v<ds.length):∃d,d∈ds/\atI ds v=some d:=by
 obtain⟨j,rfl⟩:=z50 h0;have a:j<ds.length:=(om9 h1);exact⟨ds[j],z57 a,zW (zX3 a)⟩
theorem lJ (st:Stmt)(env:Env):execs [st] env=exec st env:=by
 rw[PySem.execs_cons];have:(λf:Flow=>(match f with|.next=>execs [] env|f=>pure f:Sem Flow))=pure:=by
  funext f
  cases f<;>rfl
 exact(congrArg (λg=>exec st env >>= g) this).trans (bind_pure _)
section
variable {X:Cx}{α:Ev}{e a b c:Expr}{es rest:List Expr}{pos p:Pos}{Q:PyData->Prop}{E:xf}{st:Stmt}{sts sts':List Stmt}
theorem xx (P:Ev->Prop)(h1:SvS X α [st] {E with nx:=P})(h2:∀d,P d->SvS X d sts E):SvS X α (st::sts) E:=λF σ H D m r=>by
 refine xm (λf H'=>∃d,M F d f H'/\P d) ?_ ?_
 ·obtain⟨t,p,q⟩:=h1 F σ H {D with nx:=λf H'=>∃d,M F d f H'/\P d} m ⟨λd f H' g z=>⟨d,g,z⟩,r.rt,r.bk,r.ct⟩;exact⟨t,λpins s σ H D I h=>(by
   have:=p pins s σ H D I h;rw[lJ]at this;exact this),q⟩
 ·rintro f H' ⟨d,g,z⟩;exact h2 d z F f H' D g r
theorem zz3 {c:Prop}[Decidable c]{a b:List Stmt}(h1:c->SvS X α a E)(h2:¬c->SvS X α b E):SvS X α (if decide c=true then a else b) E:=by
 by_cases h:c
 ·rw[z02 h];exact h1 h
 ·rw[zZ7 h];exact h2 h
theorem vP {k:Bool}{a b:List Stmt}(h1:k=true->SvS X α a E)(h2:k=false->SvS X α b E):SvS X α (if k=true then a else b) E:=by
 cases k with
 |true=>exact h1 rfl
 |false=>exact h2 rfl
theorem jJ {i j:Int}:Cmp rEq (.int i) (.int j) (decide (i=j)):=λp H k g R f d h=>by
 cases f.int_inv;cases d.int_inv;refine⟨rfl,?_⟩;rw[show decide (V.int i=V.int j)=decide (i=j) by simp];exact h
theorem zi0 {i j:Int}:Cmp rNe (.int i) (.int j) (!decide (i=j)):=λp H k g R f d h=>by
 cases f.int_inv;cases d.int_inv;refine⟨rfl,?_⟩;rw[show decide (V.int i=V.int j)=decide (i=j) by simp];exact h
theorem jN {i j:Str}:Cmp rEq (.str i) (.str j) (decide (i=j)):=λp H k g R f d h=>by
 cases f.str_inv;cases d.str_inv;refine⟨rfl,?_⟩;rw[show decide (V.str i=V.str j)=decide (i=j) by simp];exact h
theorem cO {op:CmpOp}{r:R2}(u:OpR X (compareOp op) r)(hm:behindInMarks op b=false)(h:EvD X α a λx=>EvD X α b λy=>∃k,Cmp r x y k/\Q (.bool k)):EvD X α (.Compare a [op] [b] pos) Q:=λF σ H R m k=>by
 refine⟨_,tG u zf zf hm,?_⟩;refine h F σ H _ m λx v H1 s t1 f o=>?_;have m1:=m.kz f t1;refine s F σ H1 _ m1 λy j g i l d n=>?_;obtain⟨b,t,q⟩:=i;exact t _ g v j _ (o.same (d.gz m1.tp)) n (k _ _ g q l (f.trans d) (.bl b))
theorem zy3 {Q:Bool->Prop}(h:EvD X α a λx=>EvD X α b λy=>∃i j,x=.int i/\y=.int j/\Q (decide (i=j))):EvT X α (.Compare a [.Eq] [b] pos) Q:=
 xA jG (yc _) (h.imp λx h=>h.imp λy d=>by obtain⟨i,j,e1,f,q⟩:=d;exact⟨_,by subst e1 f;exact jJ,q⟩)
theorem zy1 {Q:Bool->Prop}(h:EvD X α a λx=>EvD X α b λy=>∃i j,x=.str i/\y=.str j/\Q (decide (i=j))):EvT X α (.Compare a [.Eq] [b] pos) Q:=
 xA jG (yc _) (h.imp λx h=>h.imp λy d=>by obtain⟨i,j,e1,f,q⟩:=d;exact⟨_,by subst e1 f;exact jN,q⟩)
theorem zj6 {p q:Bool}{Q:Bool->Prop}(ha:∀Q:Bool->Prop,Q p->EvT X α a Q)(hb:p=true->∀Q:Bool->Prop,Q q->EvW X α (.BoolOp .And (b::rest) pos) Q)(k:Q (p&&q)):EvW X α (.BoolOp .And (a::b::rest) pos) Q:=by
 refine cU (ha _ ?_);cases p with
 |true=>rw[if_pos rfl];exact hb rfl _ (by simpa using k)
 |false=>rw[if_neg (by decide)];simpa using k
theorem M.park {F:Fr}{σ:St}{H H1:Hp}{l:Addr}{o:HO}(m:M F α σ H)(g:Kz F H H1)(t1:zG F H1)(A:H l=none)(t:H1 l=some o)(no:wF o):M ⟨F.H0,λx=>F.O0 x\/x=l,F.tp⟩ α σ H1:=by
 have m1:=m.kz g t1;have C:zz (Gz F α σ H) (Gz ⟨F.H0,λx=>F.O0 x\/x=l,F.tp⟩ α σ H1):=λy o z=>by
  obtain⟨u,j⟩:=zc z;refine zA ?_ (g _ _ j (m.tp.nt (ow0 u)));rintro((w|w)|⟨i,a,s,e1,h,f⟩)
  ·exact u (.inl w)
  ·rw[w,A]at j;cases j
  ·exact u (.inr ⟨i,a,s,e1,h,f⟩)
 refine⟨m.len,λi a s e1 h=>(m.ok i a s e1 h).stay C (λx o f e=>?_) rfl λr q _ y=>?_,m.dj,m.xd,t1.to rfl λ_ z=>.inl z,λy o z n=>m1.keep y o z n,λy z=>?_⟩
 ·obtain⟨v,B,_⟩:=m.ft e1 h f;exact⟨g _ _ e (m.tp.nt v),λ(w:F.O0 x\/x=l)=>w.elim v (λw=>by rw[w,A]at e;cases e),B⟩
 ·have d:=y.kz g t1;exact⟨d.tp,λx z=>.inl (d.o x z),d.ok,d.k⟩
 ·rcases z with z|z
  ·exact m1.oex y z
  ·exact⟨_,by rw[z];exact t,no⟩
end
structure NbT (mg:Str->Option Value):Prop where
 abs:mg "abs"=none
 list:mg "list"=none
 len:mg "len"=none
 range:mg "range"=none
 min:mg "min"=none
 max:mg "max"=none
 sorted:mg "sorted"=none
 isinstance:mg "isinstance"=none
 int:mg "int"=none
 bool:mg "bool"=none
 str:mg "str"=none
 tuple:mg "tuple"=none
 all:mg "all"=none
 any:mg "any"=none
 repr:mg "repr"=none
 zip:mg "zip"=none
 enumerate:mg "enumerate"=none
 reversed:mg "reversed"=none
 sum:mg "sum"=none
theorem vX {X:Cx}{K:PySem.W.Frag}{a:List Expr}{k:Nat}{t:TGs}{n:Nat}{pos:Pos}(c:X.K=K)(d:X.calm=true)(h:PGs X a t)
  (hn:(assignEach a X.env).length=n:=by rfl) (b:(assignEach a X.env).findIdx? (·.1)=none:=by rfl):PG X (.Tuple a k pos) (cA K n t):=by
 subst c;exact zA7 d h hn b
end L2
namespace SortA
open PySem PySem.W PyProof.Rows
def run {α:Type}(lt:Nat->Nat->Bool):KasT α->α
 |.ret a=>a
 |.ask i j k=>run lt (k (lt i j))
theorem run_bind {α β:Type}(lt:Nat->Nat->Bool)(f:α->KasT β):∀t:KasT α,run lt (t.bind f)=run lt (f (run lt t))
 |.ret _=>rfl
 |.ask i j k=>run_bind lt f (k (lt i j))
structure Ord (lt:Nat->Nat->Bool):Prop where
 irr:∀a,lt a a=false
 tr:∀a b c,lt b a=false->lt c b=false->lt c a=false
 asy:∀a b,lt a b=true->lt b a=false
abbrev g (p:Array Nat)(i:Nat):Nat:=p.getD i 0
def Up (lt:Nat->Nat->Bool)(p:Array Nat)(m:Nat):Prop:=∀i j,i<=j->j<m->lt (g p j) (g p i)=false
def Down (lt:Nat->Nat->Bool)(p:Array Nat)(m:Nat):Prop:=∀i j,i<=j->j<m->lt (g p i) (g p j)=false
theorem aJ {p q:Array Nat}{i j:Nat}(h:p[i]?=q[j]?):g p i=g q j:=by
 unfold g;rw[Array.getD_eq_getD_getElem?,Array.getD_eq_getD_getElem?,h]
variable {lt:Nat->Nat->Bool}
theorem Up.succ (O:Ord lt){p:Array Nat}{m:Nat}(h:Up lt p m)(hm:0<m)(e:lt (g p m) (g p (m-1))=false):Up lt p (m+1):=λi j a d=>by
 by_cases e1:j<m
 ·exact h i j a e1
 ·have c:j=m:=(z69 (z61 d) (z66 e1));subst c;by_cases b:i=j
  ·subst b;exact O.irr _
  ·exact O.tr _ _ _ (h i (j-1) (zu9 a b) (rh hm)) e
theorem Down.succ (O:Ord lt){p:Array Nat}{m:Nat}(h:Down lt p m)(hm:0<m)(e:lt (g p (m-1)) (g p m)=false):Down lt p (m+1):=λi j a d=>by
 by_cases e1:j<m
 ·exact h i j a e1
 ·have c:j=m:=(z69 (z61 d) (z66 e1));subst c;by_cases b:i=j
  ·subst b;exact O.irr _
  ·exact O.tr _ _ _ e (h i (j-1) (zu9 a b) (rh hm))
theorem zC5 (O:Ord lt)(p:Array Nat):Up lt p 1:=λi j a b=>by
 have e1:i=0:=(zv9 b a);have c:j=0:=(zp8 b);rw[e1,c];exact O.irr _
theorem ky (O:Ord lt)(p:Array Nat):∀(f n:Nat),0<n->Up lt p n->n<=run lt (kas_asc p f n)/\run lt (kas_asc p f n)<=n+f/\Up lt p (run lt (kas_asc p f n))/\
  (run lt (kas_asc p f n)<n+f->lt (g p (run lt (kas_asc p f n))) (g p (run lt (kas_asc p f n)-1))=true)
 |0,n,_,h=>⟨zX7 _,zX7 _,h,λz=>absurd z (z26 _)⟩
 |f+1,n,hn,h=>by
  show n<=run lt ((λc=>if c=true then KasT.ret n else kas_asc p f (n+1)) (lt (p.getD n 0) (p.getD (n-1) 0)))/\_;cases e:lt (p.getD n 0) (p.getD (n-1) 0)with
  |true=>
   have i:run lt (kas_asc p (f+1) n)=n:=by
    show run lt ((λc=>if c=true then KasT.ret n else kas_asc p f (n+1)) (lt (p.getD n 0) (p.getD (n-1) 0)))=n;rw[e];rfl
   rw[i];exact⟨zX7 _,(zY8 _ _),h,λ_=>e⟩
  |false=>
   have i:run lt (kas_asc p (f+1) n)=run lt (kas_asc p f (n+1)):=by
    show run lt ((λc=>if c=true then KasT.ret n else kas_asc p f (n+1)) (lt (p.getD n 0) (p.getD (n-1) 0)))=_;rw[e];rfl
   rw[i];obtain⟨a,b,c,d⟩:=ky O p f (n+1) (yc9 _) (h.succ O hn e);exact⟨by show n<=run lt (kas_asc p f (n+1));exact zY1 (zY8 _ _) a,(ip b),c,λz=>d (by lia)⟩
theorem uX {p:Array Nat}{i j:Nat}(a:j<=p.size)(k:Nat):g (kas_rev p i j) k=if i<=k/\k<j then g p (i+j-1-k)else g p k:=by
 have h:=getElem?_mirror_all (xs:=p) (i:=i) a k;split
 ·rename_i c;rw[if_pos c]at h;exact aJ h
 ·rename_i c;rw[if_neg c]at h;exact aJ h
theorem xB (p:Array Nat)(i j:Nat):(kas_rev p i j).size=p.size:=mirror_size _ _ _ _
theorem yK (p:Array Nat)(i j:Nat):(kas_rev p i j).Perm p:=mirror_perm _ _ _ _
def Eqv (lt:Nat->Nat->Bool)(a b:Nat):Prop:=lt a b=false/\lt b a=false
theorem Down.eqv (O:Ord lt){p q:Array Nat}{n:Nat}(h:Down lt p n)(e:∀k,k<n->Eqv lt (g q k) (g p k)):Down lt q n:=λi j a b=>
 O.tr _ _ _ (O.tr _ _ _ (e j b).2 (h i j a b)) (e i (zZ5 a b)).1
def Last (lt:Nat->Nat->Bool)(p:Array Nat)(n q:Nat):Prop:=∀a b,n<=a+(q+1)->a<n->n<=b+(q+1)->b<n->lt (g p a) (g p b)=false
theorem rev_last (O:Ord lt){p:Array Nat}{n q:Nat}(hn:n<=p.size)(hq:q<n)(L:Last lt p n q):∀k,k<n->Eqv lt (g (kas_rev p (n-(q+1)) n) k) (g p k):=λk hk=>by
 rw[uX hn];split
 ·rename_i c;exact⟨L _ _ (zt2 hk) (zs5 c.2 c.1) (zs7 c.1) hk,L _ _ (zs7 c.1) hk (zt2 hk) (zs5 c.2 c.1)⟩
 ·exact⟨O.irr _,O.irr _⟩
theorem tP (O:Ord lt):∀(f:Nat) (p:Array Nat) (n q:Nat),q<n->n+f<=p.size->Down lt p n->Last lt p n q->
  ∃i m j,run lt (kas_desc f p n q)=(i,m,j)/\n<=m/\m<=n+f/\i.size=p.size/\i.Perm p/\j<m/\Down lt i m/\Last lt i m j
 |0,p,n,q,hq,o,h,L=>⟨p,n,q,rfl,zX7 _,zX7 _,rfl,yc3 _,hq,h,L⟩
 |f+1,p,n,q,hq,o,h,L=>by
  cases e:lt (p.getD n 0) (p.getD (n-1) 0)with
  |true=>
   by_cases x:q > 0
   ·have l:run lt (kas_desc (f+1) p n q)=run lt (kas_desc f (kas_rev p (n-(q+1)) n) (n+1) 0):=by
     show run lt ((λc=>if c=true then(if q > 0 then kas_desc f (kas_rev p (n-(q+1)) n) (n+1) 0 else kas_desc f p (n+1) 0)
      else .ask (p.getD (n-1) 0) (p.getD n 0) λd=>if d=true then .ret (p,n,q)else kas_desc f p (n+1) (q+1)) (lt (p.getD n 0) (p.getD (n-1) 0)))=_
     rw[e];show run lt (if q > 0 then _ else _)=_;rw[if_pos x]
    have ev:=rev_last O ((zY1 (zY8 _ _) o):n<=p.size) hq L;have h1:=h.eqv O ev;have hn:g (kas_rev p (n-(q+1)) n) n=g p n:=by rw[uX (zY1 (zY8 _ _) o),if_neg (zr0)]
    have h2:Down lt (kas_rev p (n-(q+1)) n) (n+1):=h1.succ O (zZ5 (zY9 _) hq) (by
     rw[hn];exact O.tr _ _ _ (O.asy _ _ e) (ev (n-1) (rh hq)).1)
    obtain⟨i,m,j,a,b,c,s,u,r,w,v⟩:=tP O f (kas_rev p (n-(q+1)) n) (n+1) 0 (yc9 _) (by rw[xB];exact iy o) h2 (λa b h1 h2 h3 t=>by
     have e1:a=n:=(qN h1 h2);have k:b=n:=(qN h3 t);rw[e1,k];exact O.irr _)
    exact⟨i,m,j,l.trans a,(zY1 (zY8 _ _) b),(ip c),by rw[s,xB],u.trans (yK _ _ _),r,w,v⟩
   ·have l:run lt (kas_desc (f+1) p n q)=run lt (kas_desc f p (n+1) 0):=by
     show run lt ((λc=>if c=true then(if q > 0 then kas_desc f (kas_rev p (n-(q+1)) n) (n+1) 0 else kas_desc f p (n+1) 0)
      else .ask (p.getD (n-1) 0) (p.getD n 0) λd=>if d=true then .ret (p,n,q)else kas_desc f p (n+1) (q+1)) (lt (p.getD n 0) (p.getD (n-1) 0)))=_
     rw[e];show run lt (if q > 0 then _ else _)=_;rw[if_neg x]
    obtain⟨i,m,j,a,b,c,s,u,r,w,v⟩:=tP O f p (n+1) 0 (yc9 _) (iy o) (h.succ O (zZ5 (zY9 _) hq) (O.asy _ _ e)) (λa b h1 h2 h3 t=>by
     have e1:a=n:=(qN h1 h2);have k:b=n:=(qN h3 t);rw[e1,k];exact O.irr _)
    exact⟨i,m,j,l.trans a,(zY1 (zY8 _ _) b),(ip c),s,u,r,w,v⟩
  |false=>
   cases k:lt (p.getD (n-1) 0) (p.getD n 0)with
   |true=>
    have l:run lt (kas_desc (f+1) p n q)=(p,n,q):=by
     show run lt ((λc=>if c=true then(if q > 0 then kas_desc f (kas_rev p (n-(q+1)) n) (n+1) 0 else kas_desc f p (n+1) 0)
      else .ask (p.getD (n-1) 0) (p.getD n 0) λd=>if d=true then .ret (p,n,q)else kas_desc f p (n+1) (q+1)) (lt (p.getD n 0) (p.getD (n-1) 0)))=_
     rw[e];show run lt ((λd=>if d=true then KasT.ret (p,n,q)else kas_desc f p (n+1) (q+1)) (lt (p.getD (n-1) 0) (p.getD n 0)))=_;rw[k];rfl
    exact⟨p,n,q,l,zX7 _,(zY8 _ _),rfl,yc3 _,hq,h,L⟩
   |false=>
    have l:run lt (kas_desc (f+1) p n q)=run lt (kas_desc f p (n+1) (q+1)):=by
     show run lt ((λc=>if c=true then(if q > 0 then kas_desc f (kas_rev p (n-(q+1)) n) (n+1) 0 else kas_desc f p (n+1) 0)
      else .ask (p.getD (n-1) 0) (p.getD n 0) λd=>if d=true then .ret (p,n,q)else kas_desc f p (n+1) (q+1)) (lt (p.getD n 0) (p.getD (n-1) 0)))=_
     rw[e];show run lt ((λd=>if d=true then KasT.ret (p,n,q)else kas_desc f p (n+1) (q+1)) (lt (p.getD (n-1) 0) (p.getD n 0)))=_;rw[k];rfl
    have B:Last lt p (n+1) (q+1):=λa b h1 h2 h3 t=>by
     have two:∀a,n+1<=a+(q+1+1)->a<n+1->Eqv lt (g p a) (g p (n-1)):=λa A z=>by
      by_cases y:a=n
      ·rw[y];exact⟨e,k⟩
      ·exact⟨L a (n-1) (zw1 A) (eQ z y) (zx5) (rh hq),L (n-1) a (zx5) (rh hq) (zw1 A) (eQ z y)⟩
     exact O.tr _ _ _ (two b h3 t).2 (two a h1 h2).1
    obtain⟨i,m,j,a,b,c,s,u,r,w,v⟩:=tP O f p (n+1) (q+1) (Nat.add_lt_add_right hq _) (iy o) (h.succ O (zZ5 (zY9 _) hq) k) B;exact⟨i,m,j,l.trans a,(zY1 (zY8 _ _) b),(ip c),s,u,r,w,v⟩
theorem zA8 {p:Array Nat}{n:Nat}(hn:n<=p.size)(h:Down lt p n):Up lt (kas_rev p 0 n) n:=λi j a b=>by
 rw[uX hn,uX hn,if_pos (⟨(zY9 _),b⟩),if_pos (⟨(zY9 _),(zZ5 a b)⟩)];exact h _ _ (by lia) (zr9 b)
theorem nC (O:Ord lt){p:Array Nat}{n nrem:Nat}(h0:0<n)(hn:n<=nrem)(e:nrem<=p.size)(h:Down lt p n):
  ∃d m,run lt (kas_tail3 n nrem p)=(m,d)/\1<=m/\m<=nrem/\d.size=p.size/\d.Perm p/\Up lt d m:=by
 obtain⟨a,b,c,_⟩:=ky O (kas_rev p 0 n) (nrem-n) n h0 (zA8 (zY1 hn e) h);refine⟨kas_rev p 0 n,run lt (kas_asc (kas_rev p 0 n) (nrem-n) n),?_,by lia,(eJ b hn),xB _ _ _,yK _ _ _,c⟩;unfold kas_tail3;rw[run_bind];rfl
theorem uV (O:Ord lt){p:Array Nat}{n nrem:Nat}(h0:0<n)(hn:n+1<=nrem)(r:nrem<=p.size)(h:Down lt p (n+1)):
  ∃c m,run lt (kas_descPart n nrem p)=(m,c)/\1<=m/\m<=nrem/\c.size=p.size/\c.Perm p/\Up lt c m:=by
 obtain⟨p1,m1,w,e,a1,a2,d,s,l,q,t⟩:=tP O (nrem-(n+1)) p (n+1) 0 (yc9 _) (by lia) h (λa b h1 h2 h3 v=>by
  have e1:a=n:=(qN h1 h2);have u:b=n:=(qN h3 v);rw[e1,u];exact O.irr _)
 unfold kas_descPart;rw[run_bind,e];dsimp only;split
 ·obtain⟨c,m,f,o,g,i,k,j⟩:=nC O (p:=kas_rev p1 (m1-(w+1)) m1) (n:=m1) (nrem:=nrem) (zZ5 (zY9 _) l) (eJ a2 hn) (by rw[xB];exact zY1 r (zZ3 d.symm)) (q.eqv O (rev_last O (by lia) l t));exact⟨c,m,f,o,g,by rw[i,xB,d],(k.trans (yK _ _ _)).trans s,j⟩
 ·obtain⟨c,m,f,o,g,i,k,j⟩:=nC O (p:=p1) (n:=m1) (nrem:=nrem) (zZ5 (zY9 _) l) (eJ a2 hn) (zY1 r (zZ3 d.symm)) q;exact⟨c,m,f,o,g,by rw[i,d],k.trans s,j⟩
theorem eR (O:Ord lt){p:Array Nat}{nrem:Nat}(h0:0<nrem)(o:nrem<=p.size):
  ∃h m,run lt (kas_count nrem p)=(m,h)/\1<=m/\m<=nrem/\h.size=p.size/\h.Perm p/\Up lt h m:=by
 obtain⟨a,b,c,d⟩:=ky O p (nrem-1) 1 (by decide) (zC5 O p);unfold kas_count;rw[run_bind];generalize run lt (kas_asc p (nrem-1) 1)=n at a b c d;by_cases q:n=nrem
 ·rw[if_pos (by rw[q];simp)];exact⟨p,n,rfl,a,(zZ3 q),rfl,yc3 _,c⟩
 ·rw[if_neg (by simpa using q)];have hd:=d (by lia);by_cases h1:n > 1
  ·rw[if_pos h1];cases e:lt (p.getD 0 0) (p.getD (n-1) 0)with
   |true=>
    refine⟨p,n,?_,a,by lia,rfl,yc3 _,c⟩;show run lt ((λc=>if c=true then KasT.ret (n,p)else kas_descPart n nrem (kas_rev p 0 n)) (lt (p.getD 0 0) (p.getD (n-1) 0)))=_;rw[e];rfl
   |false=>
    have all:∀k,k<n->Eqv lt (g p k) (g p 0):=λk hk=>⟨c 0 k (zY9 _) hk,O.tr _ _ _ (c k (n-1) (zu1 hk) (zt5 h1)) e⟩;have u:Down lt (kas_rev p 0 n) (n+1):=by
     have h2:Down lt (kas_rev p 0 n) n:=λi j f l=>by
      rw[uX (iB h0 o b),uX (iB h0 o b),if_pos (⟨(zY9 _),(zZ5 f l)⟩),if_pos (⟨(zY9 _),l⟩)];exact O.tr _ _ _ (all _ (by lia)).2 (all _ (zr9 l)).1
     refine h2.succ O (zZ5 (zY9 _) h1) ?_;rw[uX (iB h0 o b),uX (iB h0 o b),if_pos (by lia),if_neg (zr0)];have v:lt (g p (n-1)) (g p n)=false:=O.asy _ _ hd;exact O.tr _ _ _ v (O.tr _ _ _ (all (n-1) (zt5 h1)).2 (all _ (by lia)).1)
    obtain⟨h,m,r,A,s,t,x,w⟩:=uV O (p:=kas_rev p 0 n) (n:=n) (nrem:=nrem) (zZ5 (zY9 _) h1) (by lia) (by rw[xB];exact o) u;refine⟨h,m,?_,A,s,by rw[t,xB],x.trans (yK _ _ _),w⟩;rw[<-r];show run lt ((λc=>if c=true then KasT.ret (n,p)else kas_descPart n nrem (kas_rev p 0 n)) (lt (p.getD 0 0) (p.getD (n-1) 0)))=_;rw[e];rfl
  ·rw[if_neg h1];have e1:n=1:=(z69 (z66 h1) a);subst e1;refine uV O (by decide) (by lia) o ?_;have z:Down lt p 1:=λi j f l=>by
    have e1:i=0:=(zv9 l f);have y:j=0:=(zp8 l);rw[e1,y];exact O.irr _
   exact z.succ O (by decide) (O.asy _ _ hd)
theorem sv (O:Ord lt){p:Array Nat}{k:Nat}(U:Up lt p k):∀(f l r:Nat),r<=l+f->l<=r->r<=k->(∀i,i<l->lt (g p k) (g p i)=false)->(∀i,r<=i->i<k->lt (g p k) (g p i)=true)->
  run lt (kas_place p k f l r)<=k/\(∀i,i<run lt (kas_place p k f l r)->lt (g p k) (g p i)=false)/\(∀i,run lt (kas_place p k f l r)<=i->i<k->lt (g p k) (g p i)=true)
 |0,l,r,h1,h2,h3,ha,hb=>by
  show l<=k/\_;exact⟨(zY1 h2 h3),ha,λi x y=>hb i (by have:l<=i:=x;lia) y⟩
 |f+1,l,r,h1,h2,h3,ha,hb=>by
  by_cases a:l≥r
  ·have b:run lt (kas_place p k (f+1) l r)=l:=by
    show run lt (if l≥r then _ else _)=_;rw[if_pos a];rfl
   rw[b];exact⟨(zY1 h2 h3),ha,λi x y=>hb i (zY1 a x) y⟩
  ·cases e:lt (p.getD k 0) (p.getD ((l+r) / 2) 0)with
   |true=>
    have b:run lt (kas_place p k (f+1) l r)=run lt (kas_place p k f l ((l+r) / 2)):=by
     show run lt (if l≥r then _ else _)=_;rw[if_neg a];show run lt ((λc=>if c=true then kas_place p k f l ((l+r) / 2)else kas_place p k f ((l+r) / 2+1) r) (lt (p.getD k 0) (p.getD ((l+r) / 2) 0)))=_;rw[e];rfl
    rw[b];refine sv O U f l ((l+r) / 2) (by lia) (by lia) (by lia) ha λi x y=>?_;cases e3:lt (g p k) (g p i)with
    |true=>rfl
    |false=>
     have h:lt (g p k) (g p ((l+r) / 2))=false:=O.tr _ _ _ (U ((l+r) / 2) i x y) e3;have d:lt (g p k) (g p ((l+r) / 2))=true:=e;rw[h]at d;cases d
   |false=>
    have b:run lt (kas_place p k (f+1) l r)=run lt (kas_place p k f ((l+r) / 2+1) r):=by
     show run lt (if l≥r then _ else _)=_;rw[if_neg a];show run lt ((λc=>if c=true then kas_place p k f l ((l+r) / 2)else kas_place p k f ((l+r) / 2+1) r) (lt (p.getD k 0) (p.getD ((l+r) / 2) 0)))=_;rw[e];rfl
    rw[b];exact sv O U f ((l+r) / 2+1) r (by lia) (by lia) h3 (λi hi=>O.tr _ _ _ (U i ((l+r) / 2) (z61 hi) (by lia)) e) hb
theorem iQ (O:Ord lt){p:Array Nat}{k l:Nat}(hk:k<p.size)(o:l<=k)(U:Up lt p k)(ha:∀i,i<l->lt (g p k) (g p i)=false)(hb:∀i,l<=i->i<k->lt (g p k) (g p i)=true):Up lt (bubble p k (k-l)) (k+1):=by
 have e:∀i,g (bubble p k (k-l)) i=if i=l then g p k else if l<i/\i<=k then g p (i-1)else g p i:=λi=>by
  have h:=getElem?_bubble hk (k-l) (Nat.sub_le _ _) i;have n:k-(k-l)=l:=by lia
  rw[n]at h;by_cases c:i=l
  ·rw[if_pos c]at h ⊢;exact aJ h
  ·rw[if_neg c]at h ⊢;by_cases f:l<i/\i<=k
   ·rw[if_pos f]at h ⊢;exact aJ h
   ·rw[if_neg f]at h ⊢;exact aJ h
 intro i j a b;have gl:g (bubble p k (k-l)) l=g p k:=by rw[e,if_pos rfl]
 have d:∀i,l<i->i<=k->g (bubble p k (k-l)) i=g p (i-1):=λi x y=>by rw[e,if_neg (z80 x),if_pos ⟨x,y⟩]
 have m:∀i,i<l->g (bubble p k (k-l)) i=g p i:=λi x=>by rw[e,if_neg (zZ6 x),if_neg (by lia)]
 rcases Nat.lt_trichotomy i l with hi|hi|hi
 ·rw[m i hi];rcases Nat.lt_trichotomy j l with h|h|h
  ·rw[m j h];exact U _ _ (a) (zX4 h o)
  ·rw[h,gl];exact ha i hi
  ·rw[d j h (z61 b)];exact U _ _ (by lia) (zu7 b h)
 ·rw[hi,gl];rcases Nat.lt_trichotomy j l with h|h|h
  ·exact(z26 _ (zX4 h (zY1 (zZ3 hi.symm) a))).elim
  ·rw[h,gl];exact O.irr _
  ·rw[d j h (z61 b)];exact O.asy _ _ (hb (j-1) (zu1 h) (zu7 b h))
 ·rw[d i hi (z61 (zZ5 a b)),d j (zX4 hi a) (z61 b)];exact U _ _ (by lia) (by lia)
theorem aH (O:Ord lt):∀(f:Nat) (p:Array Nat) (k:Nat),0<k->k+f<=p.size->Up lt p k->(run lt (kas_bin f p k)).size=p.size/\(run lt (kas_bin f p k)).Perm p/\Up lt (run lt (kas_bin f p k)) (k+f)
 |0,p,k,_,_,U=>⟨rfl,yc3 _,U⟩
 |f+1,p,k,hk,hs,U=>by
  obtain⟨a,b,c⟩:=sv O U k 0 k (Nat.le_add_left _ _) (zY9 _) (zX7 _) (λi hi=>(z26 _ (zZ5 (zY9 _) hi)).elim) (λi x y=>(z26 _ (zX4 y x)).elim);have d:run lt (kas_bin (f+1) p k)=run lt (kas_bin f (bubble p k (k-run lt (kas_place p k k 0 k))) (k+1)):=by
   show run lt ((kas_place p k k 0 k).bind _)=_;rw[run_bind]
  rw[d];obtain⟨x,y,z⟩:=aH O f (bubble p k (k-run lt (kas_place p k k 0 k))) (k+1) (yc9 _) (by rw[bubble_size];exact iy hs) (iQ O (by lia) a U b c);have e:k+(f+1)=k+1+f:=zJ9;rw[e];exact⟨by rw[x,bubble_size],y.trans (bubble_perm _ _ _),z⟩
theorem zo8 (O:Ord lt){n:Nat}(h:0<n):(run lt (kas_sort n)).size=n/\(run lt (kas_sort n)).Perm (List.range n).toArray/\Up lt (run lt (kas_sort n)) n:=by
 obtain⟨p,m,e,a,b,c,d,u⟩:=eR O (p:=(List.range n).toArray) (nrem:=n) h (by simp);unfold kas_sort;rw[run_bind,e];dsimp only;have f:p.size=n:=by rw[c];simp
 by_cases hm:m<n
 ·rw[if_pos hm];have em:max m 1=m:=by lia
  rw[em];obtain⟨x,y,z⟩:=aH O (n-m) p m (by lia) (by lia) u;refine⟨by rw[x,f],y.trans d,?_⟩;have e:m+(n-m)=n:=by lia
  rw[e]at z;exact z
 ·rw[if_neg hm];have e:m=n:=(z69 b (z66 hm));subst e;exact⟨f,d,u⟩
end SortA
namespace SortA
open PySem PySem.W PyProof.Rows
def xE {α:Type}(n:Nat)(P:α->Prop):KasT α->Prop
 |.ret a=>P a
 |.ask i j k=>i<n/\j<n/\∀b,xE n P (k b)
theorem xE.bind {α β:Type}{n:Nat}{P:α->Prop}{d:β->Prop}{f:α->KasT β}(h2:∀a,P a->xE n d (f a)):∀t:KasT α,xE n P t->xE n d (t.bind f)
 |.ret a,h=>h2 a h
 |.ask i j k,⟨a,b,c⟩=>⟨a,b,λx=>xE.bind h2 (k x) (c x)⟩
def Bd (n:Nat)(p:Array Nat):Prop:=∀x∈p,x<n
theorem Bd.get {n:Nat}{p:Array Nat}(h:Bd n p)(hn:0<n)(i:Nat):p.getD i 0<n:=by
 by_cases hi:i<p.size
 ·have e:p.getD i 0=p[i]:=by simp[Array.getD,hi]
  rw[e];exact h _ (Array.getElem_mem hi)
 ·have e:p.getD i 0=0:=by simp[Array.getD,hi]
  rw[e];exact hn
theorem Bd.perm {n:Nat}{p q:Array Nat}(h:Bd n p)(e:q.Perm p):Bd n q:=λx a=>h x (e.mem_iff.mp a)
theorem sQ {n:Nat}{p:Array Nat}(B:Bd n p)(hn:0<n):∀f k,xE n (λ_=>True) (kas_asc p f k)
 |0,_=>trivial
 |f+1,k=>⟨B.get hn _,B.get hn _,λb=>by
  cases b with
  |true=>exact trivial
  |false=>exact sQ B hn f (k+1)⟩
theorem vd {n:Nat}(hn:0<n):∀f (p:Array Nat) k q,Bd n p->xE n (λr:Array Nat×Nat×Nat=>Bd n r.1) (kas_desc f p k q)
 |0,_,_,_,B=>B
 |f+1,p,k,q,B=>⟨B.get hn _,B.get hn _,λb=>by
  cases b with
  |true=>
   show xE n _ (if q > 0 then _ else _);split
   ·exact vd hn f _ _ _ (B.perm (yK _ _ _))
   ·exact vd hn f _ _ _ B
  |false=>
   refine⟨B.get hn _,B.get hn _,λb=>?_⟩;cases b with
   |true=>exact B
   |false=>exact vd hn f _ _ _ B⟩
theorem sO {n:Nat}{p:Array Nat}(B:Bd n p)(hn:0<n)(m r:Nat):xE n (λr:Nat×Array Nat=>Bd n r.2) (kas_tail3 m r p):=by
 unfold kas_tail3;refine xE.bind (P:=λ_=>True) (λa _=>?_) _ (sQ (B.perm (yK _ _ _)) hn _ _);exact B.perm (yK _ _ _)
theorem vv {n:Nat}{p:Array Nat}(B:Bd n p)(hn:0<n)(m r:Nat):xE n (λr:Nat×Array Nat=>Bd n r.2) (kas_descPart m r p):=
 xE.bind (λa ha=>by
  split
  ·exact sO (Bd.perm ha (yK _ _ _)) hn _ _
  ·exact sO ha hn _ _) _ (vd hn _ _ _ _ B)
theorem lW {n:Nat}{p:Array Nat}(B:Bd n p)(hn:0<n)(r:Nat):xE n (λr:Nat×Array Nat=>Bd n r.2) (kas_count r p):=
 xE.bind (λa _=>by
  split
  ·exact B
  ·split
   ·refine⟨B.get hn _,B.get hn _,λb=>?_⟩;cases b with
    |true=>exact B
    |false=>exact vv (B.perm (yK _ _ _)) hn _ _
   ·exact vv B hn _ _) _ (sQ B hn _ _)
theorem vD {n:Nat}{p:Array Nat}(B:Bd n p)(hn:0<n)(k:Nat):∀f l r,xE n (λ_=>True) (kas_place p k f l r)
 |0,_,_=>trivial
 |f+1,l,r=>by
  show xE n _ (if l≥r then _ else _);split
  ·exact trivial
  ·refine⟨B.get hn _,B.get hn _,λb=>?_⟩;cases b with
   |true=>exact vD B hn k f _ _
   |false=>exact vD B hn k f _ _
theorem oO {n:Nat}(hn:0<n):∀f (p:Array Nat) k,Bd n p->xE n (λ_=>True) (kas_bin f p k)
 |0,_,_,_=>trivial
 |f+1,p,k,B=>xE.bind (λl _=>oO hn f _ _ (B.perm (bubble_perm _ _ _))) _ (vD B hn k _ _ _)
theorem fZ {n:Nat}(hn:0<n):xE n (λ_=>True) (kas_sort n):=
 xE.bind (λa ha=>by
  split
  ·exact oO hn _ _ _ ha
  ·exact trivial) _ (lW (λx b=>by simpa using b) hn n)
theorem wp_run {α:Type}{n:Nat}{P:α->Prop}{cmp:Nat->Nat->(Bool->Shared->Prop)->Shared->Prop}{lt:Nat->Nat->Bool}{Q:α->Shared->Prop}{s:Shared}(d:∀i j C,i<n->j<n->C (lt i j) s->cmp i j C s):
  ∀t:KasT α,xE n P t->Q (run lt t) s->t.kasWp cmp Q s
 |.ret _,_,h=>h
 |.ask i j k,⟨a,b,c⟩,h=>d i j _ a b (wp_run d (k (lt i j)) (c _) h)
def lx (p q:Int×Int):Bool:=decide (p.1<q.1\/(p.1=q.1/\p.2<q.2))
def at2 (ps:List (Int×Int))(i:Nat):Int×Int:=ps.getD i (0,0)
theorem zF5 (ps:List (Int×Int)):Ord λi j=>lx (at2 ps i) (at2 ps j) where
 irr:=λa=>by simp[lx]
 tr:=λa b c=>by
  unfold lx;generalize at2 ps a=x;generalize at2 ps b=y;generalize at2 ps c=z;simp only[z38]
  lia
 asy:=λa b=>by
  unfold lx;generalize at2 ps a=x;generalize at2 ps b=y;simp only[z38,z37]
  lia
theorem mP (ps:List (Int×Int))(h:0<ps.length):∃d:List Nat,run (λi j=>lx (at2 ps i) (at2 ps j)) (kas_sort ps.length)=d.toArray/\d.length=ps.length/\(∀i∈d,i<ps.length)/\(d.map (at2 ps)).Perm ps/\(d.map (at2 ps)).Pairwise (λp q=>lx q p=false):=by
 obtain⟨a,b,c⟩:=zo8 (zF5 ps) h;generalize run (λi j=>lx (at2 ps i) (at2 ps j)) (kas_sort ps.length)=r at a b c;have e:(List.range ps.length).map (at2 ps)=ps:=by
  apply List.ext_getElem
  ·simp
  ·intro i h1 h2;simp[at2,h2]
 have pl:r.toList.Perm (List.range ps.length):=by
  have:=Array.perm_iff_toList_perm.mp b;simpa using this
 refine⟨r.toList,by simp,by simpa using a,λi hi=>by simpa using pl.mem_iff.mp hi,?_,?_⟩
 ·have:=pl.map (at2 ps);rw[e]at this;exact this
 ·rw[List.pairwise_map,List.pairwise_iff_getElem];intro i j hi m f;have h1:j<r.size:=by simpa using m
  have:=c i j (z30 f) (by rw[<-a];exact h1);have k:g r i=r.toList[i]:=by
   have:i<r.size:=by lia
   simp[g,Array.getD,this]
  have l:g r j=r.toList[j]:=by simp[g,Array.getD,h1]
  rw[k,l]at this;exact this
end SortA
namespace L2
open PySem PySem.Spec PySem.Calls PySem.W PyProof.Rows SortA
section
variable {prog:Program}{w:World}{A:Around}{E:Value->Shared->Prop}{s:Shared}
def Prs (h:Heap):List Value->List (Int×Int)->Prop
 |[],[]=>True
 |v::vs,p::ps=>(∃a o t u n,v=.ref a/\h.get? a=some o/\o.cls=.type "tuple"/\o.data=.seq #[.int p.1 t,.int p.2 u] n)/\Prs h vs ps
 |_,_=>False
theorem Prs.len {h:Heap}:∀{vs:List Value}{ps:List (Int×Int)},Prs h vs ps->vs.length=ps.length
 |[],[],_=>rfl
 |[],_::_,h=>h.elim
 |_::_,[],h=>h.elim
 |_::_,_::_,⟨_,h⟩=>by simp[Prs.len h]
theorem Prs.at {h:Heap}:∀{vs:List Value}{ps:List (Int×Int)} (i:Nat),Prs h vs ps->i<ps.length->∃a o t u n,vs.getD i Value.none=.ref a/\h.get? a=some o/\o.cls=.type "tuple"/\o.data=.seq #[.int (at2 ps i).1 t,.int (at2 ps i).2 u] n
 |[],[],_,_,hi=>by simp at hi
 |[],_::_,_,h,_=>h.elim
 |_::_,[],_,h,_=>h.elim
 |_::_,_::_,0,⟨x,_⟩,_=>x
 |_::_,_::_,i+1,⟨_,r⟩,hi=>by
  obtain⟨a,o,t,u,n,e,q⟩:=Prs.at i r (by simpa using hi);exact⟨a,o,t,u,n,by simpa using e,q⟩
theorem Prs.tups {h:Heap}:∀{vs:List Value}{ps:List (Int×Int)},Prs h vs ps->∃fs:List Value,KatTups h vs fs/\fs.length=ps.length/\∀v∈fs,∃i t,v=.int i t
 |[],[],_=>⟨[],trivial,rfl,λ_ h=>by simp at h⟩
 |[],_::_,h=>h.elim
 |_::_,[],h=>h.elim
 |_::_,p::_,⟨⟨a,o,t,u,n,e,c,d,hd⟩,r⟩=>by
  obtain⟨fs,x,y,z⟩:=Prs.tups r;subst e;refine⟨.int p.1 t::fs,KatTups.cons c d hd (by simp) x,by simp[y],λv b=>?_⟩;rcases zX6.mp b with rfl|b
  ·exact⟨_,_,rfl⟩
  ·exact z v b
theorem eS {a b:Addr}{f ob:Obj}{p q:Int×Int}{t u t' g:Tok}{n k:Nat}{Q:Bool->Shared->Prop}(ha:s.heap.get? a=some f)(i:f.data=.seq #[.int p.1 t,.int p.2 u] n)(hb:s.heap.get? b=some ob)(db:ob.data=.seq #[.int q.1 t',.int q.2 g] k)
  (h:Q (lx p q) s):wpAny (model prog w) A (keyLt' (tuples' true) (.ref a) (.ref b)) Q E s:=by
 refine kat_lt ha i hb db (kat_cons (wpAny_eqBool_int ?_));by_cases e:p.1=q.1
 ·have e1:(p.1 == q.1)=true:=by simp[e]
  rw[e1];refine kat_yes (kat_cons (wpAny_eqBool_int ?_));by_cases d:p.2=q.2
  ·have c:(p.2 == q.2)=true:=by simp[d]
   rw[c];refine kat_yes (kat_nil ?_);have:lx p q=false:=by simp[lx,e,d]
   rw[this]at h;simpa using h
  ·have c:(p.2 == q.2)=false:=by simp[d]
   rw[c];refine kat_no (kat_one _ _ (wpAny_lt_int ?_));have:lx p q=decide (p.2<q.2):=by simp[lx,e]
   rw[this]at h;exact h
 ·have e1:(p.1 == q.1)=false:=by simp[e]
  rw[e1];refine kat_no (oneLt_int ?_);have:lx p q=decide (p.1<q.1):=by simp[lx,e]
  rw[this]at h;exact h
theorem kA {vs:List Value}{ps:List (Int×Int)}(h2:2<=vs.length)(P:Prs s.heap vs ps){R:Array Nat->Shared->Prop}(hr:∀c:List Nat,c.length=ps.length->(∀i∈c,i<ps.length)->(c.map (at2 ps)).Perm ps->(c.map (at2 ps)).Pairwise (λp q=>lx q p=false)->R c.toArray s):
  wpAny (model prog w) A (keyKind' vs.toArray) (λh s'=>(kas_sort vs.length).kasWp (kas_ask prog w A h vs) R s') (λ_ _=>False) s:=by
 obtain⟨fs,t,F,hi⟩:=P.tups;have hlen:=P.len;refine kat_kind (T:=.type "int") t (by lia) (λv d=>?_) (by decide) ?_
 ·obtain⟨i,t,rfl⟩:=hi v d;exact .now
 ·have e:(Value.type "int" != Value.type "tuple")=true:=by decide
  rw[e];obtain⟨c,e1,x,z,g,l⟩:=mP ps (zp4 h2 hlen);rw[hlen];refine wp_run (n:=ps.length) (P:=λ_=>True) (lt:=λi j=>lx (at2 ps i) (at2 ps j)) (λi j C hi f m=>?_) _ (fZ (zp4 h2 hlen)) ?_
  ·obtain⟨a,o,t,u,n,k,ha,_,y⟩:=P.at i hi;obtain⟨b,o',t',D,B,r,hb,_,db⟩:=P.at j f;unfold kas_ask;rw[k,r];exact eS ha y hb db m
  ·rw[e1];exact hr c x z g l
def Srt (vs:List Value)(ps:List (Int×Int))(out:List Value):Prop:=
 ∃a:List Nat,out=a.map (λi=>vs.getD i Value.none)/\a.length=ps.length/\(∀i∈a,i<ps.length)/\(a.map (at2 ps)).Perm ps/\(a.map (at2 ps)).Pairwise (λp q=>lx q p=false)
theorem Srt.len {vs:List Value}{ps:List (Int×Int)}{out:List Value}(h:Srt vs ps out):out.length=ps.length:=by
 obtain⟨a,rfl,e,_⟩:=h;simp[e]
end
inductive PrV (H:Hp):List V->List (Int×Int)->Prop where
 |nil:PrV H [] []
 |cons {a:Addr}{xs:List V}{p:Int×Int}{ps:List (Int×Int)}:H a=some (.tup [.int p.1,.int p.2])->PrV H xs ps->PrV H (.ref a::xs) (p::ps)
section
variable {X:Cx}{pins:List (Addr×Obj)}{σ:St}{H H':Hp}{s:Shared}
theorem PrV.len {xs:List V}{ps:List (Int×Int)}(h:PrV H xs ps):xs.length=ps.length:=by
 induction h with
 |nil=>rfl
 |cons _ _ a=>simp[a]
theorem PrV.keep {xs:List V}{ps:List (Int×Int)}(k:∀a p q,H a=some (.tup [.int p,.int q])->H' a=some (.tup [.int p,.int q]))(h:PrV H xs ps):PrV H' xs ps:=by
 induction h with
 |nil=>exact .nil
 |cons e _ b=>exact .cons (k _ _ _ e) b
theorem PrV.app {xs ys:List V}{ps qs:List (Int×Int)}(h:PrV H xs ps)(h':PrV H ys qs):PrV H (xs++ys) (ps++qs):=by
 induction h with
 |nil=>exact h'
 |cons e _ a=>exact .cons e a
theorem PrV.prs (I:Inv X pins σ H s):∀{xs:List V}{ps:List (Int×Int)}{us:List Value},PrV H xs ps->Vals xs us->Prs s.heap us ps:=by
 intro xs ps us h
 induction h generalizing us with
 |nil=>intro r;cases r;exact trivial
 |@cons a xs p ps e _ ih=>
  intro r;cases r with
  |cons r c=>
   cases(show _=Value.ref a from r);obtain⟨_,b,g,o,d,f,n,hd⟩:=(show zE X.prog X.w H s.heap a (.tup [.int p.1,.int p.2])from I.hok a _ e);obtain⟨u,v,rfl,⟨t,rfl⟩,⟨t',rfl⟩⟩:=Vals.two g;exact⟨⟨a,o,t,t',n,rfl,d,f,hd⟩,ih c⟩
theorem mC {xs:List V}{us:List Value}(r:Vals xs us):∀i x,xs[i]?=some x->RelV x (us.getD i Value.none):=by
 induction r with
 |nil=>intro i x h;simp at h
 |cons e _ a=>
  intro i x h;cases i with
  |zero=>have h':=z00 (by simpa using h);subst h';exact e
  |succ i=>exact a i x (by simpa using h)
end
end L2
namespace Days
end Days
namespace L2
open PySem PySem.Spec PyProof.Rows Days
section
variable {X:Cx}{α:Ev}{e a b c tg:Expr}{pos p:Pos}{Q:PyData->Prop}{E:xf}{sts:List Stmt}
end
theorem bP (ds:List PyData):ds.filter (λ_=>true)=ds:=List.filter_eq_self.mpr λ_ _=>rfl
section
variable {X:Cx}{α:Ev}{tg:Expr}{pos p:Pos}{E:xf}{sts body:List Stmt}
end
def isNone :PyData->Bool
 |.none=>true
 |_=>false
abbrev eqS (d:PyData)(s:Str):Bool:=PyData.eqv d (.str s)
abbrev rf :PyData->Bool:=yM 0 1000000000000
def sW :PyData->Bool
 |.tuple [.int m,f]=>yM 2 14 (.int m)&&yM 1 (m-1) f
 |_=>false
def zT (w v:PyData):Bool:=
 if eqS w "price"=true then isNone v||rf v
 else if(eqS w "come"||eqS w "go")=true then isBool v
 else if(eqS w "least"||eqS w "most")=true then yM 1 14 v
 else if eqS w "deal"=true then isNone v||sW v
 else eqS w "fee"&&rf v
def xk :PyData->Bool
 |.tuple [w,a,b,v]=>wV (.tuple [a,b])&&zT w v
 |_=>false
abbrev words :List Str:=["price","come","go","least","most","deal","fee"]
def zR6 (x y z:V):List (Str×V):=xQ "worth" z (xQ "last" y (xQ "first" x []))
structure Cs where
 price:Addr
 come:Addr
 go:Addr
 least:Addr
 most:Addr
 deal:Addr
 fee:Addr
def Cs.of (c:Cs)(w:Str):Addr:=
 if w="price" then c.price else if w="come" then c.come else if w="go" then c.go else if w="least" then c.least else if w="most" then c.most else if w="deal" then c.deal else c.fee
structure tq (K:PySem.W.Frag)(C fI fT fE fW:Addr):Prop where
 cl:Cls K C
 nf:yy K C "first"
 nl:yy K C "last"
 nw:yy K C "worth"
 makes:Mk K C fI
 told:Meth K C "told" fT
 tells:Meth K C "tells" fE
 word:Meth K C "word" fW
theorem wq {d:PyData}{s:Str}(h:eqS d s=true):d=.str s:=by
 cases d with
 |str x=>
  have h':(x == s)=true:=h;rw[eq_of_beq h']
 |_=>simp[PyData.eqv]at h
theorem mq {w v:PyData}(h:zT w v=true):∃s∈words,w=.str s:=by
 unfold zT at h;split at h
 ·rename_i e;exact⟨"price",by simp[words],wq e⟩
 ·split at h
  ·rename_i e;rcases(z83 _ _).mp e with e|e
   ·exact⟨"come",by simp[words],wq e⟩
   ·exact⟨"go",by simp[words],wq e⟩
  ·split at h
   ·rename_i e;rcases(z83 _ _).mp e with e|e
    ·exact⟨"least",by simp[words],wq e⟩
    ·exact⟨"most",by simp[words],wq e⟩
   ·split at h
    ·rename_i e;exact⟨"deal",by simp[words],wq e⟩
    ·rw[z24]at h;exact⟨"fee",by simp[words],wq h.1⟩
theorem uT {d:PyData}(h:xk d=true):∃(s:Str) (a b v:PyData),s∈words/\d=.tuple [.str s,a,b,v]:=by
 unfold xk at h;split at h
 ·rename_i w a b v;rw[z24]at h;obtain⟨s,c,rfl⟩:=mq h.2;exact⟨s,a,b,v,c,rfl⟩
 ·cases h
section
variable {X:Cx}
end
abbrev xH (C:Addr)(fs:List (PyData×PyData)):PyData:=.dict ((.int (C:Nat),.none)::fs)
def ux :List (PyData×PyData)->Str->Option PyData
 |[],_=>none
 |(.str g,d)::r,f=>if f=g then some d else ux r f
 |_::r,f=>ux r f
theorem AVf.get {H:Hp}:∀{fs:List (Str×V)}{ds:List (PyData×PyData)}{f:Str}{d:PyData},AVf H fs ds->ux ds f=some d->∃v,fs.lookup f=some v/\AV H v d
 |_,_,f,d,.nil,e=>by cases e
 |_,_,f,d,.cons (f:=g) h r,e=>by
  rw[z32];unfold ux at e;by_cases z:f=g
  ·subst z;rw[if_pos rfl]at e;cases e;exact⟨_,by simp,h⟩
  ·rw[if_neg z]at e;have a:(f == g)=false:=by simpa using z
   rw[a];exact AVf.get r e
theorem AVf.none {H:Hp}{fs:List (Str×V)}{ds:List (PyData×PyData)}{f:Str}(h:AVf H fs ds)(e:ux ds f=Option.none):fs.lookup f=Option.none:=by
 induction h using AVf.ind with
 |nil=>rfl
 |@cons g _ _ _ _ h r ih=>
  rw[z32];unfold ux at e;by_cases z:f=g
  ·subst z;rw[if_pos rfl]at e;cases e
  ·rw[if_neg z]at e;have a:(f == g)=false:=by simpa using z
   rw[a];exact ih e
theorem AV.ins_inv {H:Hp}{v:V}{C:Addr}{ds:List (PyData×PyData)}(h:AV H v (xH C ds)):∃a dx fs,v=.ref a/\H a=some (.ins C dx fs)/\AVf H fs ds:=by
 generalize e:xH C ds=d at h;cases h with
 |@ins a b dx fs ds' h1 h2=>
  injection e with e;injection e with e1 f;have g:(C:Int)=(b:Int):=by
   have:=congrArg Prod.fst e1;injection this
  have c:C=b:=Int.ofNat.inj g;subst c f;exact⟨a,dx,fs,rfl,h1,h2⟩
 |_=>cases e
section
variable {X:Cx}{α:Ev}{o e:Expr}{es:List Expr}{pos apos p:Pos}{Q:PyData->Prop}{C:Addr}{f m:Str}
theorem wL (c:Cls X.K C)(na:yy X.K C f)(h:EvD X α o λx=>∃fs d,x=xH C fs/\ux fs f=some d/\Q d)(hb:attributeBase o f X.env (eval o X.env)=eval o X.env:=by rfl):EvD X α (.Attribute o f pos) Q:=λF σ H R m k=>by
 refine⟨_,zC9 zf hb,?_⟩;refine h F σ H _ m λx n H1 j t1 g i=>?_;obtain⟨fs,d,rfl,hf,q⟩:=j;obtain⟨a,dx,l,rfl,h1,h2⟩:=i.ins_inv;obtain⟨v,b,av⟩:=h2.get hf;exact⟨a,C,dx,l,v,rfl,(zc h1).2,c,na,b,k d v H1 q t1 g av⟩
structure xh (P:Program)(w:World)(K:PySem.W.Frag)(mg:Str->Option Value)(base:Heap)(C:Addr)(m:Str)(k:Nat)(φ:List A->(A->Prop)->Prop):Prop where
 ex:∃f fd ps,Cls K C/\Meth K C m f/\Binds K fd ps []/\yC P w K mg base CX0 k f fd ps (spA φ)
theorem ve {k:Nat}{φ:List A->(A->Prop)->Prop}{pl:Sem Bool}(u:xh X.prog X.w X.K X.mg X.base C m k φ)(hr:zM k X.A)(h:EvD X α o λx=>∃fs,x=xH C fs/\ux fs m=none/\EvA X α (e::es) λas=>φ (.dat (xH C fs)::as) λa=>Q a.d)
  (g:starEach (e::es) X.env=(false,eval e X.env)::starEach es X.env:=by rfl) (hpl:(backTo pos (starEach es X.env)).any (·.1)=false:=by rfl)
  (t:eval (.Call (.Attribute o m apos) (e::es) [] pos) X.env=(do
   let ov <-eval o X.env
   standAt apos.atName
   let(f,first) <-holding [ov] (getMethod ov m pl)
   callWith pos f first (backTo pos (starEach (e::es) X.env)) (backToKw pos (keywordEach [] X.env))):=by rfl):EvD X α (.Call (.Attribute o m apos) (e::es) [] pos) Q:=λF σ H R i L=>by
 obtain⟨f,fd,ps,c,hm,hb,G⟩:=u.ex;refine⟨_,zk3 zf c hm G hr hb .nil rL yA g hpl t,?_⟩;refine h F σ H _ i λx N H1 s t1 j l=>?_;obtain⟨fs,rfl,hf,q⟩:=s;have m1:=i.kz j t1;obtain⟨a,dx,J,rfl,h1,h2⟩:=l.ins_inv;refine⟨a,dx,J,rfl,(zc h1).2,h2.none hf,?_⟩;refine q F σ H1 _ m1 λas vs M y r b I=>?_;have m2:=m1.kz b r;have D:=xw (vs:=.ref a::vs) (as:=.dat (xH C fs)::as) (R:=R) (E:=E0) m2 (.cons (l.same (b.gz m1.tp)) I) y λz v H' B n=>by
  obtain⟨g1,g2,g3⟩:=n.back m2;exact L _ v H' B g1 ((j.trans b).trans g2) g3
 exact D
theorem rB {k:Nat}{φ:List A->(A->Prop)->Prop}{pl:Sem Bool}(r:xh X.prog X.w X.K X.mg X.base C m k φ)(hr:zM k X.A)(h:EvD X α o λx=>∃fs,x=xH C fs/\ux fs m=none/\φ [.dat (xH C fs)] λa=>Q a.d)
  (n:eval (.Call (.Attribute o m apos) [] [] pos) X.env=(do
   let ov <-eval o X.env
   standAt apos.atName
   let(f,first) <-holding [ov] (getMethod ov m pl)
   callWith pos f first (backTo pos (starEach [] X.env)) (backToKw pos (keywordEach [] X.env))):=by rfl):EvD X α (.Call (.Attribute o m apos) [] [] pos) Q:=λF σ H R b y=>by
 obtain⟨f,fd,ps,c,hm,hb,G⟩:=r.ex;refine⟨_,mj zf c hm G hr hb .nil rL n,?_⟩;refine h F σ H _ b λx B H1 l t1 g i=>?_;obtain⟨fs,rfl,hf,q⟩:=l;have m1:=b.kz g t1;obtain⟨a,dx,u,rfl,h1,h2⟩:=i.ins_inv;refine⟨a,dx,u,rfl,(zc h1).2,h2.none hf,?_⟩;have t:=xw (vs:=[.ref a]) (as:=[.dat (xH C fs)]) (R:=R) (E:=E0) m1 (.cons i .nil) q λz v H' s j=>by
  obtain⟨g1,g2,g3⟩:=j.back m1;exact y _ v H' s g1 (g.trans g2) g3
 exact t
theorem bM {k:Nat}{φ:List A->(A->Prop)->Prop}{pl:Sem Bool}{Q:List PyData->Prop}(t:xh X.prog X.w X.K X.mg X.base C m k φ)(hr:zM k X.A)(h:EvD X α o λx=>∃fs,x=xH C fs/\ux fs m=none/\φ [.dat (xH C fs)] λa=>∃ds,a=.own ds/\Q ds)
  (r:eval (.Call (.Attribute o m apos) [] [] pos) X.env=(do
   let ov <-eval o X.env
   standAt apos.atName
   let(f,first) <-holding [ov] (getMethod ov m pl)
   callWith pos f first (backTo pos (starEach [] X.env)) (backToKw pos (keywordEach [] X.env))):=by rfl):EvL X α (.Call (.Attribute o m apos) [] [] pos) Q:=λF σ H R b I=>by
 obtain⟨f,fd,ps,c,hm,hb,G⟩:=t.ex;refine⟨_,mj zf c hm G hr hb .nil rL r,?_⟩;refine h F σ H _ b λx J H1 n t1 d i=>?_;obtain⟨fs,rfl,hf,q⟩:=n;have m1:=b.kz d t1;obtain⟨a,dx,B,rfl,h1,h2⟩:=i.ins_inv;refine⟨a,dx,B,rfl,(zc h1).2,h2.none hf,?_⟩;have y:=xw (vs:=[.ref a]) (as:=[.dat (xH C fs)]) (R:=R) (E:=E0) m1 (.cons i .nil) q λz v H' u g=>by
  obtain⟨ds,rfl,q⟩:=u;obtain⟨g1,g2,_⟩:=g.back m1;obtain⟨_,_,l,xs,s,rfl,D,h1,h2,h3,j⟩:=g;cases D;exact I ds _ H' q g1 (d.trans g2) (yL.back b d t1 ⟨l,xs,rfl,h1,h3,j⟩)
 exact y
def zn0 (F:Fr)(v:V)(H':Hp)(d:PyData):Prop:=zG F H'/\Kz F F.H0 H'/\AV (sub (λx=>¬F.O0 x/\∀xs,F.H0 x≠some (.lst xs)) H') v d
def EvN (X:Cx)(α:Ev)(e:Expr)(Q:PyData->Prop):Prop:=∀(F:Fr) (σ:St) (H:Hp) (R:VK),M F α σ H->(∀d v H',Q d->zG F H'->Kz F H H'->AV (sub (λx=>¬Ow F α σ x/\∀xs,H x≠some (.lst xs)) H') v d->R v H')->uo X e σ H R
theorem EvN.d (h:EvN X α e Q):EvD X α e Q:=λF σ H R m k=>h F σ H R m λd v H' q t z r=>k d v H' q t z (r.same (zq λa o h e=>⟨h.1,e⟩))
def spI (C:Addr)(φ:List A->(A->Prop)->Prop):Sp:=λvs H b _=>∃(F:Fr) (as:List A) (Q:A->Prop) (x dx:Addr) (a:List V) (H1:Hp),vs=.ref x::a/\H1 x=none/\H1 dx=none/\dx≠x/\H=upd (upd H1 dx (.own x)) x (.ins C dx [])/\
 F.H0=H1/\zG F H1/\(∀y,F.O0 y->∃u,H1 y=some u/\wF u)/\yp F (sub (λy=>¬F.O0 y) H1) a as/\φ as Q/\∀d H',Q (.dat d)->zn0 F (.ref x) H' d->b .non H'
structure vH (P:Program)(w:World)(K:PySem.W.Frag)(mg:Str->Option Value)(base:Heap)(x:Str)(k:Nat)(dvs:List V)(φ:List A->(A->Prop)->Prop):Prop where
 ex:∃C f fd ps ds,mg x=some (.ref C)/\Mk K C f/\Binds K fd ps ds/\Vals dvs ds/\yC P w K mg base CX0 k f fd ps (spI C φ)
theorem lL {F:Fr}{σ:St}{H:Hp}{vs:List V}{as:List A}{b:A->Prop}{R:VK}{φ:List A->(A->Prop)->Prop}(m:M F α σ H)(j:yp F (Gz F α σ H) vs as)(a:φ as b)
  (k:∀d v H',b (.dat d)->zn0 ⟨H,Ow F α σ,F.tp⟩ v H' d->R v H') {E:XK} (x dx:Addr) (h:H x=none) (hdx:H dx=none) (hne:dx≠x):spI C φ (.ref x::vs) (upd (upd H dx (.own x)) x (.ins C dx [])) (λv i=>v=.non/\R (.ref x) i) E:=by
 refine⟨⟨H,Ow F α σ,F.tp⟩,as,b,x,dx,vs,H,rfl,h,hdx,hne,rfl,rfl,?_,?_,?_,a,λd H' g c=>⟨rfl,k d _ H' g c⟩⟩
 ·exact m.tp.to rfl λ_ z=>.inl z
 ·exact λy z=>m.owEx z
 ·exact yp.to (F:=F) (F':=⟨H,Ow F α σ,F.tp⟩) (λ_ _ e=>e) rfl j
theorem zn0.back {F:Fr}{σ:St}{H H1 H':Hp}{v:V}{d:PyData}(m:M F α σ H)(b:Kz F H H1)(h:zn0 ⟨H1,Ow F α σ,F.tp⟩ v H' d):zG F H'/\Kz F H1 H'/\AV (sub (λx=>¬Ow F α σ x/\∀xs,H x≠some (.lst xs)) H') v d:=by
 obtain⟨t,kz,r⟩:=h;refine⟨m.tp.re t rfl,kz,r.same (zq λa o h e=>⟨⟨h.1,λxs z=>h.2 xs (b _ _ z (m.tp.nt (ow0 h.1)))⟩,e⟩)⟩
theorem zj0 {k:Nat}{φ:List A->(A->Prop)->Prop}{x:Str}(j:vH X.prog X.w X.K X.mg X.base x k [] φ)(hr:zM (k+1) X.A)(hg:Gl X x)(h:EvA X α (e::es) λas=>φ as λa=>Q a.d)
  (b:(x == ("__debug__":Str))=false:=by decide) (he:starEach (e::es) X.env=(false,eval e X.env)::starEach es X.env:=by rfl) (hpl:(backTo pos (starEach es X.env)).any (·.1)=false:=by rfl):EvN X α (.Call (.Name x p) (e::es) [] pos) Q:=λF σ H R m q=>by
 obtain⟨C,f,fd,ps,ds,hm,hk,hb,hd,G⟩:=j.ex;cases hd;refine⟨_,zg3 hk G hr hg hm hb .nil rL yA b he hpl,?_⟩;refine h F σ H _ m λas vs H1 i t1 c n=>?_;have m1:=m.kz c t1;intro y dx hy hdx hne;rw[z39];refine lL m1 n i (λd v H' l g=>?_) y dx hy hdx hne;obtain⟨g1,g2,g3⟩:=g.back m c;exact q d v H' l g1 (c.trans g2) g3
end
structure zy2 (K:PySem.W.Frag)(x qual:Str)(st:Stmt)(dV:Value)(f:Addr)(fd:FuncData):Prop where
 ex:∃(oc:Value) (od:Option Addr) (kV doc pm:Value) (an:Option Addr) (cdv ct:Value) (osl:Array (Option Value)),
  fd=PySem.W.fnOf x qual (zR st) (zu st) (zg st) dV kV doc pm an cdv ct/\K.lookup f=some ⟨oc,od,.func fd,osl⟩/\PySem.W.codeIn K cdv qual=true
 kp:PySem.W.keepIn K (.ref f)=true
theorem zk4 {K:PySem.W.Frag}{x qual:Str}{st:Stmt}{f:Addr}{oc:Value}{od an:Option Addr}{osl:Array (Option Value)}{dV kV doc pm cdv ct:Value}(l:K.lookup f=some ⟨oc,od,.func (PySem.W.fnOf x qual (zR st) (zu st) (zg st) dV kV doc pm an cdv ct),osl⟩)
  (c:PySem.W.codeIn K cdv qual=true) (k:PySem.W.keepIn K (.ref f)=true):zy2 K x qual st dV f (PySem.W.fnOf x qual (zR st) (zu st) (zg st) dV kV doc pm an cdv ct):=⟨⟨oc,od,kV,doc,pm,an,cdv,ct,osl,rfl,l,c⟩,k⟩
section
variable {P:Program}{w:World}{K:PySem.W.Frag}{mg:Str->Option Value}{base:Heap}
theorem zO0 {qual:Str}{st:Stmt}{f C:Addr}{dV:Value}{fd:FuncData}{N:List Str}{x:Str}{k:Nat}{φ:List A->(A->Prop)->Prop}{fl:Str}{e:Expr}{p1 p2 p3:Pos}(G:zy2 K "__init__" qual st dV f fd)(S:ya ("self"::x::N) ["self",x] (zg st))(c:Cls K C)(na:yy K C fl)
  (hb:zu st=[.Assign [.Attribute (.Name "self" p1) fl p2] e p3]) (hlen:∀as Q,φ as Q->as.length=1)
  (R:∀(cdv:Value) (J:Around) (outer:List Env) (s:Shared) (H:Hp) (E:XK) (as:List A) (Q:A->Prop),zM k (J.deeper (envOfC qual (zg st) s.heap.objs.size f cdv))->φ as Q->
   EvL (wW CX0 P w K mg base ("self"::x::N) qual (zg st) f cdv J outer s H E).nox (none::as.map some++List.replicate N.length none) e λds=>wU ds=true/\Q (.dat (xH C [(.str fl,.list ds)])))
  (a6:∀(cdv:Value) (J:Around) (outer:List Env) (s:Shared) (H:Hp) (E:XK),swapsWith e (some (.Attribute (.Name "self" p1) fl p2)) p3.line (wW CX0 P w K mg base ("self"::x::N) qual (zg st) f cdv J outer s H E).nox.env=pure false)
  (hv:Vis (zg st) "self"):yC P w K mg base CX0 (k+1) f fd ["self",x] (spI C φ):=by
 obtain⟨oc,od,kV,doc,pm,an,cdv,ct,osl,rfl,lk,a8⟩:=G.ex;refine eI lk a8 S (λvs H Q E h=>?_) λJ outer s H vs Qc E hr h=>?_
 ·obtain⟨F,as,Q',y,dx,p,H1,rfl,_,_,_,_,_,_,_,U,D,_⟩:=h;rw[zY7,U.length,hlen as _ D];rfl
 ·obtain⟨F,as,Q',y,dx,p,H1,rfl,hy,hdx,hne,rfl,rfl,t,o,U,D,kk⟩:=h;have hl:=U.length;have a3:=hlen as _ D;rw[hb];refine⟨_,(show PSs _ _ _ from(wo (pZ (X:=(wW CX0 P w K mg base ("self"::x::N) qual (zg st) f cdv J outer s (upd (upd F.H0 dx (.own y)) y (.ins C dx [])) E).nox) (xg (i:=0) rfl hv) zf (a6 cdv J outer s _ E))).nox),?_⟩
  let Z:Fr:=⟨F.H0,λz=>F.O0 z\/z=y\/z=dx,F.tp⟩
  have s1:zz F.H0 (upd (upd F.H0 dx (.own y)) y (.ins C dx [])):=λa u q=>by rw[zb (zj q hy),zb (zj q hdx)];exact q
  have O:¬F.O0 y:=λz=>by obtain⟨u,B,_⟩:=o y z;rw[hy]at B;cases B
  have b0:¬F.O0 dx:=λz=>by obtain⟨u,B,_⟩:=o dx z;rw[hdx]at B;cases B
  have t2:zG Z (upd (upd F.H0 dx (.own y)) y (.ins C dx [])):=(t.same s1).to rfl λ_ z=>.inl z
  -- the names of the body
  have g:∀{i:Nat} {a:A},(none::as.map some++List.replicate N.length none:Ev)[i]?=some (some a)->∃j,i=j+1/\as[j]?=some a:=λ{i a} h=>by
   cases i with
   |zero=>simp at h
   |succ j=>
    refine⟨j,rfl,?_⟩;have h':(as.map some++List.replicate N.length none:Ev)[j]?=some (some a):=by simpa using h
    rcases z91 j as.length with z|z
    ·rw[z53 (by rw[zX0];exact z),zY3,zZ4]at h';obtain⟨b,h1,h2⟩:=h';cases h2;exact h1
    ·rw[z86 (by rw[zX0];exact z),z73]at h';split at h'<;>cases h'
  have at':∀{vs:List V} {as:List A} {i:Nat} {a:A},yp F (sub (λx=>¬F.O0 x) F.H0) vs as->as[i]?=some a->∃v,vs[i]?=some v/\iO F (sub (λx=>¬F.O0 x) F.H0) v a:=by
   intro vs as i a h
   induction h generalizing i with
   |nil=>intro e;simp at e
   |cons h r ih=>
    intro e;cases i with
    |zero=>simp at e;subst e;exact⟨_,rfl,h⟩
    |succ i=>obtain⟨v,h1,h2⟩:=ih (by simpa using e);exact⟨v,by simpa using h1,h2⟩
  have gv:∀{j:Nat} {v:V},p[j]?=some v->(L2.start ("self"::x::N) (.ref y::p))[j+1]?=some (some v):=λ{j v} h=>by
   have hj:j<p.length:=(zX5.mp h).1;unfold L2.start;rw[z53 (by rw[zX0,zY7];exact Nat.add_lt_add_right hj _),zY3,yd6,h];rfl
  have no:∀(i:Nat) a,(none::as.map some++List.replicate N.length none:Ev)[i]?=some (some a)->(∃d,a=.dat d)\/a=.tape:=λi a z=>by
   obtain⟨j,_,hj⟩:=g z;obtain⟨v,_,h⟩:=at' U hj;cases a with
   |dat d=>exact .inl ⟨d,rfl⟩
   |tape=>exact .inr rfl
   |_=>exact h.elim
  have gs:zz (sub (λx=>¬F.O0 x) F.H0) (Gz Z (none::as.map some++List.replicate N.length none) (L2.start ("self"::x::N) (.ref y::p)) (upd (upd F.H0 dx (.own y)) y (.ins C dx []))):=λa u q=>by
   obtain⟨Y,L⟩:=zc q;refine zA ?_ (s1 _ _ L);rintro((z|z|z)|⟨i,b,s,e,_,f⟩)
   ·exact Y z
   ·rw[z,hy]at L;cases L
   ·rw[z,hdx]at L;cases L
   ·rcases no i b e with⟨d,rfl⟩|rfl
    ·exact f.elim
    ·exact f.elim
  have m2:M Z (none::as.map some++List.replicate N.length none) (L2.start ("self"::x::N) (.ref y::p)) (upd (upd F.H0 dx (.own y)) y (.ins C dx [])):=by
   refine⟨by unfold L2.start;simp[hl,a3],λi a s e1 e2=>?_,λi j a b s t x e1 _ _ _ f=>?_,λi r q z=>(by rcases no i _ z with⟨d,w⟩|w<;>cases w),t2,λz u h _=>s1 z u h,λz hz=>?_⟩
   ·obtain⟨j,rfl,hj⟩:=g e1;obtain⟨v,h1,h2⟩:=at' U hj;rw[gv h1]at e2;cases e2;rcases no _ a e1 with⟨d,rfl⟩|rfl
    ·exact⟨v,rfl,AV.same gs h2⟩
    ·obtain⟨t',b,c,h3,rfl⟩:=h2;exact⟨t',b,c,h3,rfl⟩
   ·rcases no i a e1 with⟨d,rfl⟩|rfl
    ·exact f.elim
    ·exact f.elim
   ·rcases hz with q|q|q
    ·obtain⟨u,B,hn⟩:=o z q;exact⟨u,s1 _ _ B,hn⟩
    ·exact⟨_,by rw[q];exact zi,λ_ q=>by cases q⟩
    ·exact⟨_,by rw[q,zb hne];exact zi,λ_ q=>by cases q⟩
  refine R cdv J outer s _ E as Q' hr D Z _ _ _ m2 λd v H2 qd t3 k3 r3=>?_;obtain⟨l,xs,rfl,m,a5,a9⟩:=r3;obtain⟨a7,qd⟩:=qd;have a1:l≠y:=λz=>by rw[z,zi]at m;cases m
  have a0:l≠dx:=λz=>by rw[z,zb hne,zi]at m;cases m
  have I:F.H0 l=none:=by rw[zb a1,zb a0]at m;exact m
  have a2:¬F.O0 l:=λz=>by obtain⟨u,B,_⟩:=o l z;rw[I]at B;cases B
  have a4:NT Z y:=t.nt O;have T:H2 y=some (.ins C dx []):=k3 _ _ zi a4;refine⟨.ref y,rfl,y,C,dx,[],rfl,T,c,na,by show 0<1000;decide,?_⟩;refine kk _ _ qd ⟨(t.re t3 rfl).updO O (iM T),λz u h n=>?_,?_⟩
  ·rw[zb (zj h hy)];exact k3 _ _ (s1 _ _ h) n
  ·refine AV.ins (zA ⟨O,λxs z=>by rw[hy]at z;cases z⟩ zi) (.cons (.lst (zA ⟨a2,λxs z=>by rw[I]at z;cases z⟩ (by rw[zb a1];exact a5)) ?_) .nil);refine a9.noL (λa u hno z=>?_) a7;obtain⟨Y,L⟩:=zc z;have na:a≠y:=λw=>Y.1 (.inl (.inr (.inl w)));refine zA ⟨λw=>Y.1 (.inl (.inl w)),λxs w=>?_⟩ (by rw[zb na];exact L);have:H2 a=some (.lst xs):=k3 _ _ (s1 _ _ w) (t.nt λw=>Y.1 (.inl (.inl w)));rw[L]at this;cases this;exact hno trivial
end
section
variable {X:Cx}{α:Ev}{e e':Expr}{pos:Pos}{E:xf}{sts:List Stmt}
end
def Itv (K:PySem.W.Frag)(a:Addr)(n:Nat):It:=
 ⟨λi H=>∃xs x,SqL K H a xs/\xs.length=n/\i<n/\xs[n-1-i]?=some x,λi H x H'=>H'=H/\∀xs,SqL K H a xs->xs[n-1-i]?=some x,λi H=>n<=i⟩
theorem ao {P:Program}{w:World}{K:PySem.W.Frag}{tg:Expr}(a it:Addr)(n:Nat):Turn P w K tg (Itv K a n) [it] it (λi h=>i<=n/\h.IsRevIter it a ((n:Int)-1-(i:Int))) where
 mem:=by simp
 obj:=λi h st b hb=>by
  have e:b=it:=by simpa using hb
  subst e;obtain⟨_,o,e,c,d⟩:=st;exact⟨o,e,λv z=>by rw[d]at z;cases z⟩
 keep:=λi h h' st k=>⟨st.1,st.2.at λo e=>k it (by simp) o e⟩
 item:=by
  intro X q hw j t i pins s σ H E I hf st hg;subst q hw j;obtain⟨xs,x,hq,M,hi,r⟩:=hg;obtain⟨C,B,p,hz⟩:=I.list hq;obtain⟨u,D,y⟩:=B.get r;obtain⟨f0,f1,f2,l,f4,m⟩:=hf it (by simp);have e1:((n:Int)-1-(i:Int))=((n-1-i:Nat):Int):=by lia
  have f:=st.2;rw[e1]at f;refine wpAny_pyNext_rev_item f p.isList (x:=u) (by simpa using D) λh' g F=>?_;have L:Inv X pins σ H {s with heap:=h'}:=I.turned (t':=s.toks) (λb o hb e=>(F.2 b hb).trans e) f0 f1 l f4 m;obtain⟨o,e,c,d⟩:=id g;have J:(((n-1-i:Nat):Int)-1)=(n:Int)-1-((i+1:Nat):Int):=by lia
  rw[J]at g;exact⟨u,rfl,rR (s:={s with heap:=h'}) e c d (by decide) ⟨x,H,L,y,⟨rfl,λys hy=>by rw[I.list_inj hy hq];exact r⟩,⟨hi,g⟩,λb hb=>(hf b hb).1⟩⟩
 done:=by
  intro X q hw j t i pins s σ H E I hf st hg;subst q hw j;have hi:i=n:=z69 st.1 hg;obtain⟨f0,f1,f2,l,f4,m⟩:=hf it (by simp);have f:=st.2;rw[show((n:Int)-1-(i:Int))=-1 by lia]at f;exact wpAny_pyNext_rev_end (I.ok.hd t) f λh' G=>⟨rfl,I.turned (t':=s.toks) (λb o hb e=>G b o hb e) f0 f1 l f4 m⟩
 self:=λA i s Q E st h=>wpAny_pyIter_revIter st.2 h
section
variable {X:Cx}{α:Ev}{tg:Expr}{p pos:Pos}{a:Expr}
def zW5 (K:PySem.W.Frag)(b:TA):TI:=λσ H R=>b σ H λvs H1=>∃l xs,vs=[.ref l]/\SqL K H1 l xs/\R (Itv K l xs.length) H1
theorem zB9 {k:TA}(hg:Gl X "reversed")(hm:X.mg "reversed"=none)(ha:PA X [a] k)(t:starEach [a] X.env=[(false,eval a X.env)]:=by rfl):PI X tg (.Call (.Name "reversed" p) [a] [] pos) (zW5 X.K k):=by
 intro pins s σ H R I h;refine Call_ (yO I hg hm boot_reversed (z21 (thn (ha pos pins s σ H _ I h) λus s1 g=>?_) t rfl));obtain⟨vs,H1,f,r,m⟩:=g;obtain⟨l1,xs,e,i,q⟩:=m;subst e;obtain⟨u,rfl,l⟩:=Vals.one r;cases(show u=Value.ref l1 from l);obtain⟨d,j,p1,n⟩:=f.list i;have hlen:=j.length;refine call_reversed_list p1.isList ?_;have c:({s1 with heap:=s1.heap.push (revObj l1 ((d.toArray.size:Int)-1))}:Shared).heap.IsRevIter s1.heap.objs.size l1 ((xs.length:Int)-1-((0:Nat):Int)):=by
  refine⟨_,zY5 _ rfl,rfl,?_⟩;show Data.fields _=_;rw[zZ0,hlen];simp
 refine wpAny_pyIter_revIter c ?_;refine⟨_,_,_,_,H1,rfl,f.kept (t':=s1.toks) λb o e=>zX2 _ e,ao l1 _ xs.length,⟨zY9 _,c⟩,λb hb=>?_,q⟩;have e:b=s1.heap.objs.size:=by simpa using hb
 subst e;exact f.fpOk (zX7 _) (f.hok.fresh (zX7 _))
theorem zH6 {Q:List PyData->Prop}(hg:Gl X "reversed")(hm:X.mg "reversed"=none)(h:EvD X α a λx=>∃ds,x=.list ds/\Q ds.reverse)(f:starEach [a] X.env=[(false,eval a X.env)]:=by rfl):
  EvI X α tg (.Call (.Name "reversed" p) [a] [] pos) Q:=λF σ H R m k=>by
 refine⟨_,zB9 hg hm (zr zf zD f) f,?_⟩;refine h F σ H _ m λx o H1 g t1 l n=>?_;obtain⟨ds,rfl,q⟩:=g;obtain⟨l1,xs,rfl,g1,g2⟩:=n.lst_inv;refine⟨l1,xs,rfl,SqL.of (zc g1).2,k _ _ H1 q t1 l λi r p s=>⟨λd hd=>?_,λe=>?_⟩⟩
 ·have s1:=SqL.of (K:=X.K) (zc (s _ _ g1)).2;have hi:i<ds.length:=by
   have:=(zX5.mp hd).1
   rwa [z63]at this
  rw[List.getElem?_reverse hi]at hd;obtain⟨j,b,c⟩:=g2.get hd;rw[<-g2.length]at b;refine⟨⟨xs,j,s1,rfl,by rw[g2.length];exact hi,b⟩,λv t y=>?_⟩;obtain⟨rfl,hy⟩:=y;have:=hy _ s1;rw[b]at this;cases this;exact⟨zz.refl _,λ_=>c.same s⟩
 ·rw[z63,<-g2.length]at e;exact e
end
def EnS (w:World):List DictEntry->List (Str×V)->Prop:=Paired λe p=>e.hash=hashStr w p.1/\(∃t,e.key=.str p.1 t)/\RelV p.2 e.val
def jI (K:PySem.W.Frag)(w:World)(d:Addr)(a:List (Str×V)):Prop:=
 ∃b n,K.lookup d=some ⟨.type "dict",none,.dict b n,#[]⟩/\EnS w b.toList a/\(a.map (·.1)).Nodup
theorem gW {P:Program}{w:World}{a:List DictEntry}{b:List (Str×V)}(h:EnS w a b):Pairs (PySem.strKind P w) a (List.zipWith (λe (p:Str×V)=>(p.1,e.val)) a b):=by
 induction h with
 |nil=>exact .nil
 |cons q _ c=>
  obtain⟨_,⟨t,d⟩,_⟩:=q;exact .cons (by rw[d];simp[PySem.strKind,Value.isStrOf]) rfl c
theorem zj3 {w:World}{b:List DictEntry}{a:List (Str×V)}(h:EnS w b a):(List.zipWith (λe (p:Str×V)=>(p.1,e.val)) b a).map (·.1)=a.map (·.1):=by
 induction h with
 |nil=>rfl
 |cons _ _ c=>simp only[List.zipWith_cons_cons,zZ2,c]
theorem eV {P:Program}{w:World}{a:List DictEntry}{b:List (Str×V)}(h:EnS w a b):∀e∈a,∃k,(PySem.strKind P w).is k e.key=true/\e.hash=(PySem.strKind P w).hash k:=by
 induction h with
 |nil=>intro e he;simp at he
 |@cons _ p _ _ q _ ih=>
  obtain⟨h1,⟨t,c⟩,_⟩:=q;intro e he;rcases zX6.mp he with rfl|he
  ·exact⟨p.1,by rw[c];simp[PySem.strKind,Value.isStrOf],h1⟩
  ·exact ih e he
theorem ze8 {w:World}{x:Str}{v:V}{b:List DictEntry}{a:List (Str×V)}(c:EnS w b a)(h:a.lookup x=some v):∃u,valueAt (List.zipWith (λe (p:Str×V)=>(p.1,e.val)) b a) x=some u/\RelV v u:=by
 induction c with
 |nil=>simp at h
 |@cons e p _ _ k _ ih=>
  obtain⟨y,z⟩:=p;by_cases q:x=y
  ·subst q;simp only[List.lookup_cons_self,Option.some.injEq]at h;subst h;exact⟨e.val,by simp[valueAt],k.2.2⟩
  ·rw[z32,z74.mpr q]at h;obtain⟨u,h1,h2⟩:=ih h;refine⟨u,?_,h2⟩;rw[<-h1];simp[valueAt,z54,z09 q]
section
variable {X:Cx}{α:Ev}{p pos:Pos}{a:Expr}{g:Str}{Q:PyData->Prop}
def zF8 (i:Expr):Prop:=∀c b,subscripted i false c b=operate [c,b] (getItem c b)
theorem zU8 {prog:Program}{w:World}{A:Around}{E:Value->Shared->Prop}{s:Shared}{env:Env}{value slice:Expr}{pos:Pos}{T id:String}{Q:Value->Shared->Prop}
  (l:typeLookup (.type T) "__getitem__"=pure (some (.builtin id))) (m:zF8 slice)
  (h:wpAny (model prog w) A (eval value env) (λo e=>wpAny (model prog w) A (eval slice env) (λi b=>b.TypeIs o T/\wpAny (model prog w) A (getItem o i) Q E b) E e) E s):
  wpAny (model prog w) A (eval (.Subscript value slice pos) env) Q E s:=by
 refine Subscript_ (thn h λo e j=>thn j λi b c=>?_);obtain⟨k,c⟩:=c;unfold subscriptTail;refine zX1 ?_;rw[getitemInPython_of_ne k.not_modules];refine zX1 (yc4 k l ?_);have fin:wpAny (model prog w) A (subscripted slice false o i) (λr d=>wpAny (model prog w) A (letTemporaryGo value o r >>= λ_=>pure r) Q E d) E b:=by
  rw[m o i];exact wpAny_operating (thn c λr d f=>zX1 (wpAny_letTemporaryGo (zY6 f)))
 first
  |exact zY6 (zX1 fin)
  |exact zX1 (zY6 (zX1 fin))
  |exact zX1 fin
theorem bI {d:Addr}{f:List (Str×V)}{ty:TE}(hg:Gl X g)(hm:X.mg g=some (.ref d))(hd:jI X.K X.w d f)(hi:PE X a ty)(z:zF8 a)(hb:(g == ("__debug__":Str))=false:=by decide):
  PE X (.Subscript (.Name g p) a pos) (λσ H Q=>ty σ H λy H1=>∃x v,y=.str x/\f.lookup x=some v/\Q v H1):=by
 intro pins s σ H Q I h;refine zU8 PySem.F.slot_dict_getitem.lookup z (tO I hg hm (thn (hi pins s σ H _ I h) λA s2 b=>?_) hb);obtain⟨y,m,i,o,x,v,r,ex,q⟩:=b;subst r;obtain⟨t,rfl⟩:=o;obtain⟨j,n,l,he,hn⟩:=hd;have k:s2.heap.DictOf (PySem.strKind X.prog X.w) d (List.zipWith (λe (p:Str×V)=>(p.1,e.val)) j.toList f):=
  ⟨_,j,n,i.kIn _ _ l,⟨rfl,rfl,rfl⟩,rfl,λe c=>eV he e (by simpa using c),gW he,by rw[zj3 he];exact hn⟩
 obtain⟨u,h1,h2⟩:=ze8 he ex;exact⟨k.typeIs,wpAny_getItem_of (show(PySem.strKind X.prog X.w).is x (.str x t)=true by simp[PySem.strKind,Value.isStrOf]) k.mapOf h1 ⟨v,m,i.tok _,h2,q⟩⟩
def scV :PyData->Option V
 |.none=>some .non
 |.bool b=>some (.bl b)
 |.int i=>some (.int i)
 |.str x=>some (.str x)
 |_=>Option.none
theorem zG8 {H:Hp}{d:PyData}{v:V}(h:scV d=some v):AV H v d:=by
 cases d<;>simp[scV]at h<;>subst h<;>constructor
theorem bN {d:Addr}{b:List (Str×V)}(hg:Gl X g)(hm:X.mg g=some (.ref d))(hd:jI X.K X.w d b)(h:EvD X α a λy=>∃x d v,y=.str x/\b.lookup x=some v/\scV d=some v/\Q d)(c:zF8 a:=by exact λ_ _=>rfl)
  (hb:(g == ("__debug__":Str))=false:=by decide):EvD X α (.Subscript (.Name g p) a pos) Q:=λF σ H R m k=>by
 refine⟨_,bI hg hm hd zf c hb,?_⟩;refine h F σ H _ m λy j H1 i t1 e f=>?_;obtain⟨x,d',v,rfl,h1,h2,q⟩:=i;cases f.str_inv;exact⟨x,v,rfl,h1,k _ _ H1 q t1 e (zG8 h2)⟩
end
section
variable {X:Cx}{α:Ev}{p pos:Pos}{a b:Expr}{g:Str}{Q:PyData->Prop}
theorem kR (h:EvD X α a λx=>EvD X α b λy=>∃i j,x=.str i/\y=.str j/\i.length+j.length<=sizeLine/\Q (.str (i++j))):EvD X α (.BinOp a .Add b pos) Q:=by
 refine uI (f:=tOp _) (ym lZ zf zf) (λ_ _ _=>Iff.rfl) (h.imp λx h=>h.imp λy c=>?_);obtain⟨i,j,e1,l,e,hq⟩:=c;subst e1 l;intro F σ H q o R m n d k;cases n.str_inv;cases d.str_inv;exact⟨i,j,rfl,rfl,e,k _ _ H hq m.tp Kz.refl (.str _)⟩
def rP :PyData->Bool
 |.none=>true
 |.bool _=>true
 |.int _=>true
 |.str _=>true
 |_=>false
theorem ik {H:Hp}{v:V}{d:PyData}(h:AV H v d)(f:rP d=true):vq v=true/\scV d=some v:=by
 cases h<;>first|exact⟨rfl,rfl⟩|cases f
theorem dM {H:Hp}{xs:List V}{ds:List PyData}(h:AVs H xs ds)(f:ds.all rP=true):xs.all vq=true/\ds.map scV=xs.map some:=by
 induction h using AVs.ind with
 |nil=>exact⟨rfl,rfl⟩
 |cons h _ c=>
  rw[yg9,z24]at f;obtain⟨h1,h2⟩:=ik h f.1;obtain⟨h3,d⟩:=c f.2;exact⟨by rw[yg9,h1,h3];rfl,by rw[zZ2,zZ2,h2,d]⟩
def inD (x:PyData)(ds:List PyData):Bool:=ds.any λy=>match scV y,scV x with
 |some u,some v=>eqV u v
 |_,_=>false
theorem jP {v:V}{x:PyData}(f:scV x=some v):∀{xs:List V}{ds:List PyData},ds.map scV=xs.map some->inV v xs=inD x ds
 |[],[],_=>rfl
 |[],_::_,e=>by cases e
 |_::_,[],e=>by cases e
 |u::xs,d::ds,e=>by
  rw[zZ2,zZ2]at e;injection e with e1 h;have c:=jP f h;unfold inV inD at c ⊢;rw[z87,z87,c,e1,f]
theorem ba {neg:Bool}{x:PyData}{ds:List PyData}(e:rP x=true)(fs:ds.all rP=true):Cmp (rIn X.K neg) x (.list ds) (if neg then !inD x ds else inD x ds):=λp H i f R d c h=>by
 obtain⟨ad,xs,rfl,g1,g2⟩:=c.lst_inv;obtain⟨f1,s1⟩:=ik d e;obtain⟨f2,s2⟩:=dM g2 fs;refine⟨ad,xs,rfl,.inl (SqL.of (zc g1).2),f1,f2,?_⟩;rw[jP s1 s2];exact h
end
section
variable {X:Cx}{α:Ev}{p pos:Pos}{a b:Expr}{Q:PyData->Prop}
end
section
variable {X:Cx}{α:Ev}{a e:Expr}{pos p2 p3 p4:Pos}{n1:Nat}{te:TE}
end
def dq (T:Addr)(H:Hp):Prop:=∀b:Addr,H b=none\/b=T\/∃o xs,H b=some (.frz o (.lst xs))
theorem ef {P:Program}{w:World}{K:PySem.W.Frag}{mg mb:Str->Option Value}{CX:CXT}{k:Nat}{Z a T:Addr}{fd:FuncData}{x:Str}{sp:Sp}{c:Shared}{vs:List Value}{ns:List Int}{ps:Array Value}
  (KX:K.In c.heap) (B:c.heap.Ns mainGlobals mg) (hb:c.heap.Ns builtinsNs mb) (M:∀x:Str,x≠"__name__"->mb x=bootBuiltins x) (J:c.heap.NoLimit) (hg:c.gens=#[])
  (ha:c.heap.get? a=some {cls:=.type "list",data:=.seq vs.toArray}) (hi:IntsAre vs ns) (hl:ns.length<=sizeLine) (hr:zM k callerA)
  (C:c.heap.get? T=some (PySem.W.tabObj ps)) (R:K.lookup T=none) (X:isCodeTable c.heap T)
  (Y:∃bm ob,mg "__builtins__"=some (.ref bm)/\bm≠builtinsNs/\c.heap.get? bm=some ob/\ob.cls=.type "module"/\ob.dict=some builtinsNs/\ob.data=.plain)
  (F:∀base:Heap,K.In base->base.Ns mainGlobals mg->base.BuiltinsAt mg T->yC P w K mg base CX k Z fd [x] sp) (p:∀(s:Shared) (u:Value),BindsTo s fd ⟨[u],[]⟩ [(x,u)])
  (N:∀H:Hp,dq T H->H T=some (.tbl ps)->SqL K H a (ns.map V.int)->sp [.ref a] H (λv _=>v=.bl true) λ_ _ _=>False)
  (O:∀H e s',CX [] H c (λ_ _ _=>False) e s'->False):
  codeAny (model P w) callerA (.call (.ref Z) ⟨[.ref a],[]⟩) (λr s'=>r=.ok (.ret (.bool true))/\OldK c.heap s'.heap/\s'.os=c.os/\AllBare s'.gens) c:=by
 have rv:=gB hi;have D:=hi.length;have I:a≠T:=λz=>by rw[z,C]at ha;cases ha
 have core:∀H:Hp,dq T H->H T=some (.tbl ps)->SqL K H a (ns.map V.int)->HOk P w H c.heap->(∀b,H b≠none->b=a\/b=T)->(H a≠none->K.lookup a=none)->
   codeAny (model P w) callerA (.call (.ref Z) ⟨[.ref a],[]⟩) (λr s'=>r=.ok (.ret (.bool true))/\OldK c.heap s'.heap/\s'.os=c.os/\AllBare s'.gens) c:=by
  intro H hO G hS hok hA hK;have f:∀{b:Addr} {o:Obj},c.heap.get? b=some o->H b=none->(qh c.heap H).get? b=some o:=λe n=>dH e n;have S:∀{b:Addr} {o:Obj} {y:Array DictEntry} {t:Nat},c.heap.get? b=some o->o.data=.dict y t->H b=none:=λ{b o y t} e d=>by
   cases q:H b with
   |none=>rfl
   |some u=>
    rcases hA b (by rw[q];simp)with g|g
    ·subst g;rw[ha]at e;cases e;have d':Data.seq vs.toArray _=Data.dict y t:=d;cases d'
    ·subst g;rw[C]at e;cases e;have d':Data.fields ps=Data.dict y t:=d;cases d'
  have j:∀{b:Addr} {m:Str->Option Value},c.heap.Ns b m->(qh c.heap H).Ns b m:=λ{b m} U=>by obtain⟨o,y,t,e,d,r⟩:=U;exact⟨o,y,t,f e (S e d),d,r⟩
  have E:K.In (qh c.heap H):=λb o e=>f (KX b o e) (by
   cases q:H b with
   |none=>rfl
   |some u=>
    rcases hA b (by rw[q];simp)with g|g
    ·subst g;rw[hK (by rw[q];simp)]at e;cases e
    ·subst g;rw[R]at e;cases e)
  have hM:Mod K mg (qh c.heap H):=⟨E,j B,⟨mb,j hb,M⟩,let⟨mc,h1,h2⟩:=J;⟨mc,j h1,h2⟩⟩;have Q:(qh c.heap H).BuiltinsAt mg T:=by
   obtain⟨bm,ob,b1,b2,A,b4,b5,L⟩:=Y;have n1:bm≠T:=λz=>by rw[z,C]at A;cases A;cases b4
   have n2:bm≠a:=λz=>by rw[z,ha]at A;cases A;cases L
   have n3:bm≠mainGlobals:=λz=>by
    obtain⟨o,y,t,e,d,_⟩:=B;rw[z,e]at A;cases A;rw[d]at L;cases L
   exact⟨bm,ob,b1,b2,n3,n1,f A (by
    cases q:H bm with
    |none=>rfl
    |some u=>
          rcases hA bm (by rw[q];simp)with g|g
          ·exact absurd g n2
          ·exact absurd g n1),b4,b5,L⟩
  have e0:uB P w K mg (qh c.heap H) callerA [] c H:=⟨rfl,hM,λb o e=>zj1 e,zZ3 (fR _ _),trivial,λb hb=>absurd (show b∈([]:List Addr)from hb) (by simp),hok,.of_eq hg⟩;refine yf1 ((F _ E (j B) Q).run callerA [] c H ⟨[.ref a],[]⟩ [.ref a] [.ref a] _ _ hr e0 (p c (.ref a)) (.cons rfl .nil) (N H hO G hS)) λr s' h=>?_;cases r with
  |error e=>exact(O H e s' h).elim
  |ok fl=>
   cases fl with
   |next=>exact False.elim h
   |brk=>exact False.elim h
   |cont=>exact False.elim h
   |ret u=>
    obtain⟨v,H',os,bare,un,l,r',q⟩:=h;have q':v=.bl true:=q;subst q';obtain rfl:u=Value.bool true:=r';have old:∀b o,c.heap.get? b=some o->asItWas c.heap s'.heap b o:=λb o e=>by
     cases q:H b with
     |none=>exact .inl (un.keep b o e q (by intro z;exact absurd (show b∈([]:List Addr)from z) (by simp)) (by simp))
     |some u=>
      rcases hO b with z|z|⟨ob,xs,z⟩
      ·rw[q]at z;cases z
      ·subst z;obtain⟨more,hm⟩:=un.tbls _ _ G;have e2:s'.heap.get? b=some {cls:=.none,data:=.fields (ps++more)}:=l _ _ hm;rw[C]at e;cases e;exact .inr (.inl ⟨X,rfl,ps,more,rfl,e2⟩)
      ·have z2:=un.frzs b ob _ z;obtain⟨e1,_⟩:=hok b _ z;obtain⟨e2,_⟩:=l b _ z2;rw[e]at e1;cases e1;exact .inl e2
    refine⟨rfl,⟨old,λb o e=>?_⟩,os,bare⟩;rcases old b o e with z|⟨_,_,_,_,_,z⟩|⟨_,_,⟨o',_,_,z,_⟩,_⟩
    ·exact⟨_,z⟩
    ·exact⟨_,z⟩
    ·exact⟨_,z⟩
 cases hk:K.lookup a with
 |some o=>
  have e:=KX a o hk;rw[ha]at e;cases e;refine core (λb=>if b=T then some (.tbl ps)else none) (λb=>?_) (if_pos rfl) (.inr ⟨_,vs.toArray,_,hk,rfl,rfl,rfl,by rw[zZ0,D];exact hl,by simpa using rv⟩) (λb u z=>?_) (λb z=>?_) λz=>absurd (if_neg I) z
  ·by_cases h:b=T
   ·exact .inr (.inl h)
   ·exact .inl (if_neg h)
  ·by_cases h:b=T
   ·have i:=(if_pos h).symm.trans z;cases i;subst h;exact C
   ·have i:=(if_neg h).symm.trans z;cases i
  ·by_cases h:b=T
   ·exact .inr h
   ·exact absurd (if_neg h) z
 |none=>
  refine core (λb=>if b=T then some (.tbl ps)else if b=a then some (.frz {cls:=.type "list",data:=.seq vs.toArray} (.lst (ns.map V.int)))else none) (λb=>?_) (if_pos rfl) (.inl (.inr ⟨{cls:=.type "list",data:=.seq vs.toArray},(if_neg I).trans (if_pos rfl)⟩)) (λb u z=>?_) (λb z=>?_) λ_=>hk
  ·by_cases h:b=T
   ·exact .inr (.inl h)
   ·by_cases hb:b=a
    ·exact .inr (.inr ⟨_,_,(if_neg h).trans (if_pos hb)⟩)
    ·exact .inl ((if_neg h).trans (if_neg hb))
  ·by_cases h:b=T
   ·have i:=(if_pos h).symm.trans z;cases i;subst h;exact C
   ·have z:=(if_neg h).symm.trans z;by_cases hb:b=a
    ·have i:=(if_pos hb).symm.trans z;cases i;subst hb;exact⟨ha,by rw[zX0];exact hl,vs,_,rv,ha⟩
    ·have i:=(if_neg hb).symm.trans z;cases i
  ·by_cases h:b=T
   ·exact .inr h
   ·by_cases hb:b=a
    ·exact .inl hb
    ·exact absurd ((if_neg h).trans (if_neg hb)) z
theorem ck {l:PySem.W.OpenLaw}{n k:Nat}{q:Program}{loose:List Str}{N:(Str->Option Value)->Heap->Prop}{C:World->Heap->Prop}{d:DefRec}{K:Params->PySem.W.Frag}{CX:World->CXT}{sp:World->Sp}{x:Str}{T c:Addr}{ps:Array Value}
  (hn:l.most=some n) (t:n<=sizeLine) (hdf:d.params.defaults=[]) (hr:zM k callerA)
  (P:∀(w:World) (h:Heap),C w h->(K w.params).In h) (y:∀(w:World) (h:Heap),C w h->h.get? T=some (PySem.W.tabObj ps))
  (D:∀w:World,(K w.params).lookup T=none) (i:∀w:World,∃o vs,(K w.params).lookup c=some o/\o.cls=.type "code"/\o.data=.fields vs/\vs[11]?=some (.ref T))
  (F:∀(w:World) (mg:Str->Option Value) (p:Addr) (h:Heap),(K w.params).In h->h.Ns mainGlobals mg->mg d.name=some (.ref p)->
   ∃fd:FuncData,(∀(s:Shared) (u:Value),BindsTo s fd ⟨[u],[]⟩ [(x,u)])/\
    ∀base:Heap,(K w.params).In base->base.Ns mainGlobals mg->base.BuiltinsAt mg T->yC l.prog w (K w.params) mg base (CX w) k p fd [x] (sp w))
  (A:∀(w:World) (H:Hp) (a:Addr) (ns:List Int),ns.length<=n->dq T H->H T=some (.tbl ps)->SqL (K w.params) H a (ns.map V.int)->sp w [.ref a] H (λv _=>v=.bl true) λ_ _ _=>False)
  (B:∀(w:World) (H:Hp) (s:Shared) (e:Value) (s':Shared),CX w [] H s (λ_ _ _=>False) e s'->False):
  PySem.W.WalkO q loose N C l.row.toRowW d [] (λf vs=>PySem.call f vs):=by
 refine Att.attach_call hn hdf λw s₀ m mg mb p o pm cd doc a vs ns G Y R hd I z j hints hlen hg=>?_;have r:=P w _ Y;obtain⟨oc,cv,E,t3,L,Q⟩:=i w;obtain⟨fd,hb,hF⟩:=F w mg p _ r G.T.g z;exact ef r G.T.g G.T.b G.T.builtins G.T.nolimit hg j hints (zY1 hlen t) hr (y w _ Y) (D w) ⟨c,oc,cv,r _ _ E,t3,L,Q⟩ G.T.bmain hF hb (λH M J O=>A w H a ns hlen M J O) λH e s'=>B w H m e s'
theorem TabAt.same {H H':Hp}(T:TabAt H)(h:∀a o,(∀xs,o≠.lst xs)->H a=some o->H' a=some o):TabAt H':=sD T h
section
variable {X:Cx}{pins:List (Addr×Obj)}{σ:St}{H:Hp}{s:Shared}{h':Heap}
theorem Inv.tblMore {t':Nat}{p:Addr}{ps more:Array Value}{H':Hp}(I:Inv X pins σ H s)(h:H p=some (.tbl ps))(k:∀b u,b≠p->s.heap.get? b=some u->h'.get? b=some u)(e:h'.get? p=some (PySem.W.tabObj (ps++more)))
  (f:H' p=some (.tbl (ps++more))) (a:∀b,b≠p->b<s.heap.objs.size->H' b=H b) (new:∀b o,s.heap.objs.size<=b->H' b=some o->zE X.prog X.w H' h' b o):
  Inv X pins σ H' {s with heap:=h',toks:=t'}:=by
 have ne:∀b,H b=none->b≠p:=λb n z=>by rw[z,h]at n;cases n
 have nt:∀b o,H b=some o->(∀qs,o≠.tbl qs)->b≠p:=λb o q n z=>by rw[z,h]at q;cases q;exact n _ rfl
 have lt:∀b o,H b=some o->b<s.heap.objs.size:=λb o q=>by
  rcases z91 b s.heap.objs.size with z|z
  ·exact z
  ·rw[I.hok.fresh z]at q;cases q
 have st:∀b o,H b=some o->(∀qs,o≠.tbl qs)->H' b=some o:=λb o q n=>by rw[a b (nt b o q n) (lt b o q)];exact q
 refine I.un ⟨λb o q n _ _=>k b o (ne b n) q,λb o q n _ _=>⟨o.slots,k b o (ne b n) q⟩,λb o q n _=>by rw[a b (ne b n) (zY4 q)];exact n,λb o q _=>?_,λb xs q=>st b _ q (λ_ z=>by cases z),λb o u q=>st b _ q (λ_ z=>by cases z),λb qs q=>?_⟩ λb u q=>?_
 ·by_cases z:b=p
  ·exact⟨_,by rw[z];exact e⟩
  ·exact⟨o,k b o z q⟩
 ·by_cases z:b=p
  ·subst z;rw[h]at q;cases q;exact⟨more,f⟩
  ·exact⟨#[],by rw[a b z (lt b _ q),q];simp⟩
 ·by_cases z:b=p
  ·subst z;rw[f]at q;cases q;exact e
  ·rcases z91 b s.heap.objs.size with l|l
   ·rw[a b z l]at q;refine(I.hok b u q).stay (λc v d r=>k c v (λw=>?_) r) (λc r=>st c _ r λ_ z=>by cases z) λc xs r=>st c _ r λ_ z=>by cases z
    subst w;rcases d with rfl|d
    ·exact z rfl
    ·rw[h]at d;cases d
   ·exact new b u l q
def ko (f c:Addr)(qual:Str)(params:Arguments)(body:Expr)(scope:Scope)(a:List (Str×Addr)):HO:=
 .ext λh=>∃(pm ctv:Value),h.get? f=some (PySem.W.kla_obj "<lambda>" qual params body scope a pm c ctv)
theorem zo7 {P:Program}{w:World}{H:Hp}{h:Heap}{c:Addr}(r:h.CodeRec (.ref c) xF):zE P w H h c (uQ c):=by
 refine⟨r,?_,λh1 h2 p k=>?_⟩
 ·obtain⟨c',o,vs,t,e1,a,_⟩:=r;cases e1;exact⟨o,a⟩
 ·obtain⟨c',o,vs,t,e1,a,b⟩:=p;cases e1;exact⟨c,o,vs,t,rfl,k _ a,b⟩
theorem cb {P:Program}{w:World}{H:Hp}{h:Heap}{f c:Addr}{qual:Str}{params:Arguments}{body:Expr}{scope:Scope}{a:List (Str×Addr)}{pm ctv:Value}(r:h.get? f=some (PySem.W.kla_obj "<lambda>" qual params body scope a pm c ctv)):zE P w H h f (ko f c qual params body scope a):=
 ⟨⟨pm,ctv,r⟩,⟨_,r⟩,λh1 h2 e k=>by obtain⟨d,b,p⟩:=e;exact⟨d,b,k _ p⟩⟩
theorem kh {pos:Pos}{a b:Int}{c cv:Value}(l:List Value):TriplesOk l->codeAmong pos (l++[rawInt a,rawInt b,c])=some cv->codeAmong pos l=some cv\/cv=c:=by
 induction l using TriplesOk.induct with
 |case1=>
  intro _ h;rw[z04,rawInt,rawInt,codeAmong.eq_1]at h;split at h
  ·cases h;exact .inr rfl
  ·rw[codeAmong.eq_2 _ _ (by intro _ _ _ _ _ _ z;cases z)]at h;cases h
 |case2 i t j u d rest e=>
  intro ok h;rw[TriplesOk.eq_2]at ok;rw[yb2,yb2,yb2,codeAmong.eq_1]at h;rw[codeAmong.eq_1];split at h
  ·rename_i z;rw[if_pos z];exact .inl h
  ·rename_i z;rw[if_neg z];exact e ok h
 |case3 t h1 h2=>
  intro ok;rw[TriplesOk.eq_3 t h1 h2]at ok;exact ok.elim
theorem cq {params:Arguments}{body:Expr}{scope:Scope}{i:Pos}{g:List (Str×Addr)}{c:Addr}(I:Inv X pins σ H s)(hcl:closureFor scope X.env=pure g)(hgl:X.env.globals=mainGlobals)(hco:X.env.code=.ref c)(hhd:PySem.W.CodeHd X.base c yn)
  (hbi:X.base.BuiltinsAt X.mg yn) (hdf:defaultsOf params X.env=([],[])) (hq:X.env.qual++("<lambda>":Str)=xF) (hne:mainGlobals≠yn) (T:TabAt H) {Q:Value->Shared->Prop}
  (h:∀(f c':Addr) (H':Hp) (s':Shared),Inv X pins σ H' s'->TabAt H'->(∀a o,a≠yn->H a=some o->H' a=some o)->(∀a ps,H a=some (.tbl ps)->∃qs,H' a=some (.tbl qs))->H f=none->H' f=some (ko f c' xF params body scope g)->H' c'=some (uQ c')->Q (.ref f) s'):
  wpAny (model X.prog X.w) X.A (eval (.Lambda params body scope i) X.env) Q X.xe s:=by
 refine PySem.W.kla_eval hdf ?_;rw[hq];obtain⟨ps,t1,B,t3⟩:=T.ex;have C:s.heap.get? yn=some (PySem.W.tabObj ps):=I.hok _ _ t1;have hb:∀b o,X.base.get? b=some o->s.heap.get? b=some o:=λb o e=>(I.bs b o e).1;have n:PySem.W.CodeHd s.heap c yn:=by
  obtain⟨o,vs,f1,f2,f3,f4,f5,P,U,e1,j⟩:=hhd;exact⟨o,vs,f1,f2,f3,f4,f5,P,U,hb _ _ e1,j⟩
 have p:s.heap.BuiltinsAt X.mg yn:=by
  obtain⟨bm,o,e1,j,D,Z,e5,V⟩:=hbi;exact⟨bm,o,e1,j,D,Z,hb _ _ e5,V⟩
 have v:s.heap.Ns mainGlobals X.mg:=by
  obtain⟨o,es,ep,e,d,r⟩:=I.ok.mod.glob;exact⟨o,es,ep,hb _ _ e,d,r⟩
 cases hc:codeAmong i ps.toList with
 |none=>
  refine PySem.W.kla_makeFunction hcl hgl v hco n C B hc hne p λc' ctv h' tk ex l1 l2 cr R=>?_;have a0:c'<(h'.push (PySem.W.kla_obj "<lambda>" xF params body scope g ((X.mg "__name__").getD Value.none) c' ctv)).objs.size:=by rw[size_push'];exact zX4 l2 (zY8 _ _)
  have n1:(c':Addr)≠h'.objs.size:=zZ6 l2;have q:yn<s.heap.objs.size:=zY4 C;have n2:(c':Addr)≠yn:=z80 (zX4 q l1);have lf:s.heap.objs.size<=h'.objs.size:=z30 (zZ5 l1 l2);have Y:(h'.objs.size:Addr)≠yn:=z80 (zX4 q lf)
  let m:Hp:=upd (upd (upd H h'.objs.size (ko h'.objs.size c' xF params body scope g)) c' (uQ c')) yn (.tbl (ps++#[rawInt ↑i.line,rawInt ↑i.col,Value.ref c']))
  have E:m yn=some (.tbl (ps++#[rawInt ↑i.line,rawInt ↑i.col,Value.ref c'])):=zi;have eC:m c'=some (uQ c'):=by show upd _ _ _ _=_;rw[zb n2,zi]
  have K:m h'.objs.size=some (ko h'.objs.size c' xF params body scope g):=by show upd _ _ _ _=_;rw[zb Y,zb n1.symm,zi]
  have old:∀b,b≠yn->b<s.heap.objs.size->m b=H b:=λb nb x=>by
   show upd _ _ _ _=_;rw[zb nb,zb (zZ6 (zX4 x l1)),zb (zZ6 (zX4 x lf))]
  have F:Inv X pins σ m {s with heap:=h'.push (PySem.W.kla_obj "<lambda>" xF params body scope g ((X.mg "__name__").getD Value.none) c' ctv),toks:=tk}:=by
   refine I.tblMore (more:=#[rawInt ↑i.line,rawInt ↑i.col,Value.ref c']) t1 (λb u nb e=>zX2 _ (ex b u nb e)) (zX2 _ R) E old λb o x e=>?_;by_cases J:b=h'.objs.size
   ·subst J;rw[K]at e;cases e;exact cb (zY5 _ rfl)
   ·by_cases N:b=c'
    ·subst N;rw[eC]at e;cases e;obtain⟨L,o,vs,t,e1,j,D⟩:=cr;cases e1;exact zo7 ⟨_,o,vs,t,rfl,zX2 _ j,D⟩
    ·have nb:b≠yn:=λz=>absurd x (Nat.not_le_of_lt (z▸q));have O:m b=H b:=by show upd _ _ _ _=_;rw[zb nb,zb N,zb J]
     rw[O,I.hok.fresh x]at e;cases e
  have stay:∀a o,a≠yn->H a=some o->m a=some o:=λa o no e=>by
   have S:a<s.heap.objs.size:=by
    rcases z91 a s.heap.objs.size with z|z
    ·exact z
    ·rw[I.hok.fresh z]at e;cases e
   rw[old a no S];exact e
  refine h _ c' m _ F ⟨_,E,?_,λpos cv y=>?_⟩ stay (λa qs e=>?_) (I.hok.fresh lf) K eC
  ·rw[z52];exact TriplesOk_snoc _ _ _ _ B
  ·rw[z52]at y;rcases kh _ B y with z|z
   ·obtain⟨L,rfl,j⟩:=t3 _ _ z;exact⟨L,rfl,stay _ _ (λz=>by rw[z,t1]at j;cases j) j⟩
   ·exact⟨c',z,eC⟩
  ·by_cases G:a=yn
   ·exact⟨_,by rw[G];exact E⟩
   ·refine⟨qs,?_⟩;rw[old a G (by
     rcases z91 a s.heap.objs.size with z|z
     ·exact z
     ·rw[I.hok.fresh z]at e;cases e)]
    exact e
 |some cv=>
  obtain⟨c',rfl,M⟩:=t3 _ _ hc;refine PySem.W.kla_makeFunctionHit hcl hgl v hco n C B hc p λctv h' tk k l=>?_;have hf:H h'.objs.size=none:=I.hok.fresh l;have k2:∀b u,s.heap.get? b=some u->(h'.push (PySem.W.kla_obj "<lambda>" xF params body scope g ((X.mg "__name__").getD Value.none) c' ctv)).get? b=some u:=λb u e=>zX2 _ (k b u e);have F:=I.laid (t':=tk) (o:=ko h'.objs.size c' xF params body scope g) k2 l (cb (zY5 _ rfl));have n1:∀a o,H a=some o->a≠h'.objs.size:=λa o e z=>by rw[z,hf]at e;cases e
  refine h _ c' _ _ F (T.same λa o _ e=>by rw[zb (n1 a o e)];exact e) (λa o _ e=>by rw[zb (n1 a o e)];exact e) (λa qs e=>⟨qs,by rw[zb (n1 a _ e)];exact e⟩) hf zi ?_;rw[zb (n1 _ _ M)];exact M
end
structure xT (x y:Str)(params:Arguments)(scope:Scope):Prop where
 kind:scope.kind=.function
 co:scope.isCoroutine=false
 gen:scope.isGenerator=false
 px:scope.names.lookup x=some .local
 py:scope.names.lookup y=some .free
 nocell:∀z∈scope.names,z.2≠NameKind.cell
 only:∀z∈scope.names,z.2=NameKind.free->z.1=y
 ne:x≠y
def nE (P:Program)(w:World)(K:PySem.W.Frag)(mg:Str->Option Value)(base:Heap)(x y:Str)(scope:Scope)(f c cl:Addr)(A:Around)(outer:List Env)(s:Shared)(H:Hp):Cx where
 prog:=P
 w:=w
 K:=K
 mg:=mg
 base:=base
 A:=A.deeper (PySem.W.envX xF scope s.heap.objs.size f (.ref c) [(y,cl)])
 N:=[x,y]
 s₀:=s
 H₀:=H
 env:=PySem.W.envX xF scope s.heap.objs.size f (.ref c) [(y,cl)]
 outer:=outer
 stack:=PySem.W.envX xF scope s.heap.objs.size f (.ref c) [(y,cl)]::outer
 ex:=[]
 calm:=true
 fn:=λ_=>false
 pn:=[]
 xe:=λ_ _=>False
theorem iV {P:Program}{w:World}{K:PySem.W.Frag}{mg:Str->Option Value}{base:Heap}{x y:Str}{params:Arguments}{scope:Scope}{f c cl:Addr}{A:Around}{outer:List Env}{s:Shared}{H:Hp}{h':Heap}{tk:Nat}{v l:V}{u ul:Value}
  (S:xT x y params scope) (hd:A.handled=none) (j:uB P w K mg base A outer s H) (r:RelV v u) (B:RelV l ul) (hcl:s.heap.IsCell cl (some ul)) (n:H cl=none)
  (ns:h'.Ns s.heap.objs.size λz=>[(x,u)].reverse.lookup z) (k:∀b o,s.heap.get? b=some o->h'.get? b=some o):
  Inv (nE P w K mg base x y scope f c cl A outer s H) [] [some v,some l] H {s with heap:=h',toks:=tk}:=by
 have m:∀b:Addr,b∉(nE P w K mg base x y scope f c cl A outer s H).ex:=λb z=>absurd (show b∈([]:List Addr)from z) (by simp);have one:∀z d,(nE P w K mg base x y scope f c cl A outer s H).env.cells.lookup z=some d->z=y/\d=cl:=λz d h=>by
  have h:List.lookup z [(y,cl)]=some d:=h;rw[z32]at h;split at h
  ·rename_i e;cases h;exact⟨eq_of_beq e,rfl⟩
  ·cases h
 have hit:(nE P w K mg base x y scope f c cl A outer s H).env.cells.lookup y=some cl:=by
  show List.lookup y [(y,cl)]=some cl;simp[z32]
 have g:h'.IsCell cl (some ul):=by
  obtain⟨o,e1,t⟩:=hcl;exact⟨o,k _ _ e1,t⟩
 refine⟨⟨j.mod,S.kind,rfl,rfl,zX7 _,λa b d h1 h2=>(one a d h1).1.trans (one b d h2).1.symm,λz hz=>?_,λz d hf _=>?_,λ_=>hd,Around.frames_deeper j.frames,.inr ⟨rfl,rfl⟩,λb z=>absurd z (m b),j.bs,j.bsz,λb _ _=>m b,λb z=>absurd z (m b),j.funs,j.frf⟩,
  rfl,j.bare,Un.kept k,⟨_,ns,λi z C h1 h2 h3=>?_⟩,λz d h=>?_,j.hok.fresh (zX7 _),λz d h=>?_,λp q=>absurd (show p∈([]:List (Addr×Obj))from q) (by simp),j.hok.kept k,rfl⟩
 ·have hz:scope.names.lookup z=some .cell\/scope.names.lookup z=some .free:=hz;rcases hz with hz|hz
  ·exact absurd rfl (S.nocell _ (z36 hz))
  ·have:z=y:=S.only _ (z36 hz) rfl;subst this;exact⟨cl,hit⟩
 ·exact absurd (show false=true from hf) zZ8
 ·have h1:([x,y]:List Str)[i]?=some z:=h1
  match i,h1,h2 with
  |0,h1,h2=>
   cases h1;cases h2;exact⟨u,r,.inl ⟨S.px,by simp[z32]⟩⟩
  |1,h1,h2=>
   cases h1;cases h2;exact⟨ul,B,.inr ⟨.inr S.py,cl,hit,g⟩⟩
  |i+2,h1,h2=>simp at h1
 ·obtain⟨rfl,rfl⟩:=one z d h;exact⟨_,g⟩
 ·obtain⟨rfl,rfl⟩:=one z d h;exact n
theorem ze5 {P:Program}{w:World}{K:PySem.W.Frag}{mg:Str->Option Value}{base:Heap}{x y:Str}{params:Arguments}{body:Expr}{scope:Scope}{f c cl:Addr}{A:Around}{outer:List Env}{s:Shared}{H:Hp}{v l:V}{u ul:Value}{k:Nat}{Q:VK}{t:TE}
  (S:xT x y params scope) (hr:zM k A) (a:uB P w K mg base A outer s H) (hf:H f=some (ko f c xF params body scope [(y,cl)])) (C:H c=some (uQ c)) (hcl:s.heap.IsCell cl (some ul)) (d:H cl=none) (i:RelV v u) (B:RelV l ul)
  (hb:∀pm ctv,bindArgs (PySem.W.kla_fn "<lambda>" xF params body scope [(y,cl)] pm (.ref c) ctv) ⟨[u],[]⟩=pure [(x,u)])
  (m:PE (nE P w K mg base x y scope f c cl A outer s H) body t) (hq:t [some v,some l] H Q):
  codeAny (model P w) A (.call (.ref f) ⟨[u],[]⟩) (CR CX0 outer P w H s Q E0) s:=by
 obtain⟨⟨pm,ctv,j⟩,_,_⟩:=a.hok _ _ hf;have cr:s.heap.CodeRec (.ref c) xF:=(a.hok _ _ C).1;have lim:s.heap.NoLimit:=a.mod.nolimit.keeps λb o e=>(a.bs b o e).1;refine PySem.W.kla_callFunE hr.depth j rfl S.co S.gen rfl cr ?_;rw[hb];refine zY6 ?_;refine wpAny_newFunctionEnv S.nocell (λz hz=>?_) (λh' ns p=>?_) S.kind
 ·rw[zY0.mp hz];exact S.px
 ·have h:∀b o,s.heap.get? b=some o->h'.get? b=some o:=λb o e=>p.extBut b o (zZ6 (zY4 e)) (zX2 _ e);refine⟨lim.keeps h,PySem.W.kla_codeExpr ?_⟩;have I:=iV (tk:=s.toks+[(x,u)].length) (f:=f) (c:=c) S hr.hd a i B hcl d ns h;refine z29 (m [] _ _ H _ I hq) (λD s' g=>?_) λe s' g=>g.elim;obtain⟨n,H',J,r,q⟩:=g;exact⟨n,H',J.os,J.bare,J.base,J.hok,r,q⟩
open PySem.W SortA
section
variable {X:Cx}{pins:List (Addr×Obj)}{σ:St}{H:Hp}{s:Shared}
def aD (X:Cx)(H1 a:Hp)(s1 s2:Shared):Prop:=∀b o,s1.heap.get? b=some o->H1 b=none->b∉frs X.stack->s2.heap.get? b=some o/\a b=none
structure cY (X:Cx)(pins:List (Addr×Obj))(σ:St)(H:Hp)(D kS:Addr)(e1:Nat)(ps:List (Int×Int))(i:Nat)(s':Shared):Prop where
 ex:∃(H':Hp) (ks:List Value) (xs:List V) (e:Nat),Inv X pins σ H' s'/\(∀a o,H a=some o->H' a=some o)/\s'.heap.get? D=some (seqObj "list" #[] e1)/\s'.heap.get? kS=some (seqObj "list" ks.toArray e)/\H' D=none/\H' kS=none/\Vals xs ks/\PrV H' xs (ps.take i)
theorem hJ {A:Around}{E:Value->Shared->Prop}{vs:List Value}{ps:List (Int×Int)}{f D kS:Addr}{e1:Nat}{Q:PUnit->Shared->Prop}(hlen:vs.length=ps.length)(W:vs.length<64)(U:D∉frs X.stack)(T:kS∉frs X.stack)(hne:D≠kS)
  (L:∀H',H' kS=none->yZ X pins H' kS)
  (c:∀i v,vs[i]?=some v->∀H1 s1,Inv X pins σ H1 s1->(∀a o,H a=some o->H1 a=some o)->
   wpAny (model X.prog X.w) A (call (.ref f) [v]) (λu s2=>∃t d,u=.ref t/\Inv X pins σ d s2/\(∀a o,H1 a=some o->d a=some o)/\d t=some (.tup [.int (at2 ps i).1,.int (at2 ps i).2])/\aD X H1 d s1 s2) (λ_ _=>False) s1)
  (h0:cY X pins σ H D kS e1 ps 0 s) (Y:∀s',cY X pins σ H D kS e1 ps vs.length s'->Q PUnit.unit s'):
  wpAny (model X.prog X.w) A (forIn vs PUnit.unit λx __s=>do
   let __do_lift <-(call (.ref f) [x]).attempt
   match __do_lift with
    |Except.ok k=>do
     Builtin.List.listUpdate (.ref kS) λx=>x.push k
     pure (ForInStep.yield PUnit.unit)
    |Except.error e=>do
     rule "list.sort.key-raised"
     let made <-Builtin.List.listItems (.ref kS)
     Builtin.List.listUpdate (.ref kS) λx=>#[]
     letGo made.toList.reverse [e]
     Builtin.List.listUpdate (Value.ref D) λx=>vs.toArray
     throw e
     pure (ForInStep.yield PUnit.unit)) Q E s:=by
 refine ksk_fold (cY X pins σ H D kS e1 ps) vs 0 s h0 (λj x s' G B=>?_) (λs' B=>Y s' (by simpa using B));obtain⟨H1,ks,xs,e,Z,st,N,O,M,y,I,pr⟩:=B.ex;rw[Nat.zero_add]at pr ⊢;have m:j<ps.length:=by rw[<-hlen];exact(zX5.mp G).1
 have g:ks.length=j:=by rw[<-I.length,pr.len,z35];lia
 refine zX1 (wpAny_attempt (z29 (c j x G H1 s' Z st) (λu s2 S=>?_) λ_ _ z=>z.elim));obtain⟨t,d,rfl,P,h,J,kp⟩:=S;obtain⟨C,F⟩:=kp D _ N M U;obtain⟨l,n⟩:=kp kS _ O y T;refine zX1 (listUpdate_at l rfl (zY6 ⟨rfl,?_⟩) (by rw[zZ0,g,z41];lia) (by rw[Array.size_push,zZ0,g,z41];lia));obtain⟨r,hk⟩:∃r,(s2.heap.update kS (Obj.mapSeq λx=>x.push (Value.ref t))).get? kS=some (seqObj "list" (ks++[Value.ref t]).toArray r):=by
  have:=z70 l λx=>x.push (Value.ref t);rw[List.push_toArray]at this;exact⟨_,this⟩
 have K:∀b o,b∉[kS]->s2.heap.get? b=some o->(s2.heap.update kS (Obj.mapSeq λx=>x.push (Value.ref t))).get? b=some o:=λb o nb q=>(z01 _ _ (z09 (by simpa using nb))).trans q;refine⟨d,ks++[Value.ref t],xs++[V.ref t],r,P.turnL (t':=s2.toks) K (λb hb=>by rw[zY0.mp hb];exact L d n),λa o q=>h a o (st a o q),K D _ (by simpa using hne) C,hk,F,n,I.append (.cons rfl .nil),?_⟩;rw[z42,zX3 m];refine PrV.app (pr.keep λa p q z=>h _ _ z) ?_;have R:at2 ps j=ps[j]:=by unfold at2;rw[zY2,zX3 m];rfl
 rw[R]at J;exact .cons J .nil
theorem mL {A:Around}{E:Value->Shared->Prop}{vs:List Value}{ps:List (Int×Int)}{f D:Addr}{n:Nat}{U:PySem.Fin->Shared->Prop}(I:Inv X pins σ H s)(V:s.heap.get? D=some (seqObj "list" vs.toArray n))(hlen:vs.length=ps.length)(l:vs.length<64)(fD:H D=none)
  (nD:D∉frs X.stack) (K:∀H',H' D=none->yZ X pins H' D)
  (C:∀i v,vs[i]?=some v->∀H1 s1,Inv X pins σ H1 s1->(∀a o,H a=some o->H1 a=some o)->
   wpAny (model X.prog X.w) A (call (.ref f) [v]) (λu s2=>∃t T,u=.ref t/\Inv X pins σ T s2/\(∀a o,H1 a=some o->T a=some o)/\T t=some (.tup [.int (at2 ps i).1,.int (at2 ps i).2])/\aD X H1 T s1 s2) (λ_ _=>False) s1)
  (h:∀out H' s' c,Srt vs ps out->Inv X pins σ H' s'->(∀a o,H a=some o->H' a=some o)->s'.heap.get? D=some (seqObj "list" out.toArray c)->H' D=none->U (.done (.ret .none)) s'):
  wpAny (model X.prog X.w) A (ksk_tree D (.ref f) false) U E s:=by
 have hD:D<s.heap.objs.size:=zY4 V;have s1:=yc1 s.heap D (Obj.mapSeq λ_=>(#[]:Array Value));obtain⟨e1,B⟩:∃e1,(s.heap.update D (Obj.mapSeq λ_=>(#[]:Array Value))).get? D=some (seqObj "list" #[] e1):=⟨_,z70 V λ_=>#[]⟩;have y:(s.heap.update D (Obj.mapSeq λ_=>(#[]:Array Value))).objs.size=s.heap.objs.size:=Heap.size_update _ _ _;unfold ksk_tree;refine zX1 (listItems_at V rfl ?_);refine zX1 (listUpdate_at V rfl ?_ (by rw[zZ0,z41];exact fg l) (zY9 _));generalize a6:s.heap.update D (Obj.mapSeq λ_=>(#[]:Array Value))=h1 at s1 B y;refine zX1 (seqEpoch_at B rfl ?_);refine zX1 (wpAny_newTuple ?_ (by show vs.length<=_;rw[z41];exact fg l));refine zX1 (wpAny_newList ?_ (zY9 _));refine z43 ?_;show wpAny (model X.prog X.w) A (ksk_rest D (.ref f) false vs.toArray e1 (.ref (h1.push (seqObj "tuple" vs.toArray 0)).objs.size)) U E {s with heap:=(h1.push (seqObj "tuple" vs.toArray 0)).push (seqObj "list" #[] 0)};have N:(h1.push (seqObj "tuple" vs.toArray 0)).objs.size=s.heap.objs.size+1:=by rw[size_push',y]
 have F:((h1.push (seqObj "tuple" vs.toArray 0)).push (seqObj "list" #[] 0)).get? (h1.push (seqObj "tuple" vs.toArray 0)).objs.size=some (seqObj "list" #[] 0):=zY5 _ rfl;have L:((h1.push (seqObj "tuple" vs.toArray 0)).push (seqObj "list" #[] 0)).get? D=some (seqObj "list" #[] e1):=zX2 _ (zX2 _ B);have k1:∀b o,b∉[D]->s.heap.get? b=some o->((h1.push (seqObj "tuple" vs.toArray 0)).push (seqObj "list" #[] 0)).get? b=some o:=λb o hb e=>
  zX2 _ (zX2 _ ((s1.2 b (by simpa using hb)).trans e))
 have I0:Inv X pins σ H {s with heap:=(h1.push (seqObj "tuple" vs.toArray 0)).push (seqObj "list" #[] 0),toks:=s.toks}:=I.turnL k1 λb hb=>by rw[zY0.mp hb];exact K H fD
 generalize (h1.push (seqObj "tuple" vs.toArray 0)).push (seqObj "list" #[] 0)=h2 at F L k1 I0;generalize a7:(h1.push (seqObj "tuple" vs.toArray 0)).objs.size=kS at N F;have M:s.heap.objs.size<=kS:=by rw[N];exact z76 _
 have fK:∀H',H' kS=none->yZ X pins H' kS:=λH' hn=>I.fpOk M hn;have nK:(kS:Addr)∉frs X.stack:=λz=>by
  rcases zX6.mp (I.stkSub _ z)with q|q
  ·exact(I.fpOk (H':=λ_=>none) M rfl).2.1 q
  ·exact(I.fpOk (H':=λ_=>none) M rfl).2.2.1 q
 have hne:D≠kS:=zZ6 (zX4 hD M);have Y:H kS=none:=I.hok.fresh M;unfold ksk_rest;refine zX1 (wpAny_rule ?_);rw[yg6];refine zX1 (hJ (s:={s with heap:=h2}) hlen l nD nK hne fK C ⟨H,[],[],0,I0,λ_ _ q=>q,L,F,fD,Y,.nil,.nil⟩ λs' hI=>?_);obtain⟨H1,ks,xs,e,I1,st,eD,eK,J,a5,rv,pr⟩:=hI.ex;rw[hlen,z58]at pr;have k:ks.length=vs.length:=by rw[<-rv.length,pr.len,hlen]
 refine zX1 (listItems_at eK rfl ?_);unfold ksk_end;dsimp only;rw[if_neg (by decide)];have P:Prs s'.heap ks ps:=pr.prs I1 rv;have tail:∀(g:SortSt) (out:List Value),out.length<=64->Srt vs ps out->failedOf g=none->(arrOf g).map (·.2)=out.toArray->wpAny (model X.prog X.w) A (ksk_tail D false e1 (.ref kS) g) U E s':=by
  intro g out lo G hf O;unfold ksk_tail;dsimp only;rw[O,hf];refine zX1 (listUpdate_at eK rfl ?_ (by rw[zZ0,k,z41];exact fg l) (zY9 _));have s3:=yc1 s'.heap kS (Obj.mapSeq λ_=>(#[]:Array Value));have r:(s'.heap.update kS (Obj.mapSeq λ_=>(#[]:Array Value))).get? D=some (seqObj "list" #[] e1):=(s3.2 D hne).trans eD;have I3:Inv X pins σ H1 {s' with heap:=s'.heap.update kS (Obj.mapSeq λ_=>(#[]:Array Value)),toks:=s'.toks}:=I1.turnL (ch:=[kS]) (λb o hb q=>(s3.2 b (by simpa using hb)).trans q) λb hb=>by rw[zY0.mp hb];exact fK H1 a5
  generalize s'.heap.update kS (Obj.mapSeq λ_=>(#[]:Array Value))=h3 at r I3;refine zX1 (z78 ?_);refine zX1 (seqEpoch_at r rfl ?_);rw[if_neg (by decide)];refine zX1 (listUpdate_at r rfl ?_ (zY9 _) (by rw[zZ0,z41];lia));have s4:=yc1 h3 D (Obj.mapSeq λ_=>out.toArray);obtain⟨Z,a0⟩:∃Z,(h3.update D (Obj.mapSeq λ_=>out.toArray)).get? D=some (seqObj "list" out.toArray Z):=⟨_,z70 r λ_=>out.toArray⟩;simp only[bne_self_eq_false,z25,z65];have I4:=I3.turnL (ch:=[D]) (t':=s'.toks) (h':=h3.update D (Obj.mapSeq λ_=>out.toArray)) (λb o hb q=>(s4.2 b (by simpa using hb)).trans q) λb hb=>by rw[zY0.mp hb];exact K H1 J
  exact zY6 (h out H1 _ Z G I4 st a0 J)
 by_cases j:vs.toArray.size<2
 ·rw[if_pos j,if_pos j];have S:vs.length<2:=by simpa using j
  refine zX1 (zY6 ?_);refine zX1 (zY6 ?_);dsimp only;have G:Srt vs ps vs:=by
   match vs,ps,S,hlen with
   |[],[],_,_=>exact⟨[],rfl,rfl,λ_ h=>by simp at h,.refl _,.nil⟩
   |[v],[p],_,_=>exact⟨[0],rfl,rfl,λi h=>by simp at h;subst h;simp,.refl _,by simp⟩
   |_::_::_,_,S,_=>simp only[zY7]at S;exact(zJ4 S).elim
  refine tail _ vs (by lia) G rfl ?_;rw[if_neg (by decide)];show(ks.toArray.zip vs.toArray).map (·.2)=vs.toArray;apply Array.toList_inj.mp;rw[Array.toList_map,Array.toList_zip];exact List.map_snd_zip (zZ3 k.symm)
 ·rw[if_neg j,if_neg j,if_neg (by decide)];have h2:2<=vs.length:=by simp at j;exact j
  have ask:=kA (prog:=X.prog) (w:=X.w) (A:=A) (s:=s') (by rw[k];exact h2) P
   (R:=λp m=>Srt vs ps (p.toList.map λi=>vs.getD i Value.none)/\m=s') (λix a b c d=>⟨⟨ix,by simp,a,b,c,d⟩,rfl⟩)
  refine zX1 (z29 ask (λκ s0 hk=>?_) λ_ _ x=>x.elim);rw[k]at hk;refine zX1 (z29 (kat_run (Q:=λg m=>∃p:Array Nat,p.size=vs.length/\arrOf g=p.map (kas_item (ks.toArray.zip vs.toArray))/\failedOf g=none/\Srt vs ps (p.toList.map λi=>vs.getD i Value.none)/\m=s')
   k h2 l (λp' g m a1 a2 a3 a4=>⟨p',a1,a2,a3,a4⟩) hk) ?_ λ_ _ e=>e)
  rintro⟨⟨⟩,g⟩ m ⟨p,hp,W,hf,G,rfl⟩;dsimp only;exact tail g _ (by rw[G.len,<-hlen];exact z30 l) G hf (kat_snds k W)
end
section
variable {X:Cx}{pins:List (Addr×Obj)}{σ:St}{H:Hp}{s:Shared}
theorem Inv.adopt {D:Addr}{o:HO}(I:Inv X pins σ H s)(fp:yZ X pins H D)(new:zE X.prog X.w (upd H D o) s.heap D o):Inv X pins σ (upd H D o) s:=by
 have a:=fp.1;have st:∀b u,H b=some u->upd H D o b=some u:=λb u e=>by rw[zb (zj e a)];exact e
 have:=I.step (g':=s.gens) (t':=s.toks) (d':=s.drawn) (h':=s.heap) (H':=upd H D o) (ch:=[D]) (λb hb=>by rw[zY0.mp hb];exact⟨fp.2.2.2.1,fp.2.1,fp.2.2.2.2.1,fp.2.2.2.2.2⟩) (λb u _ _ _ e _=>e) (λb u _ _ _ e _=>⟨u.slots,e⟩) (λb u hb e n=>by rw[zb (by simpa using hb)];exact n)
  (λb u _ e=>⟨u,e⟩) (λb xs e=>st b _ e) (λb u xs e=>st b _ e) (λb ps e=>⟨#[],by rw[st b _ e];simp⟩) (λm hm=>hm) (λb u e=>?_) I.bare
 ·exact this
 ·by_cases hb:b=D
  ·subst hb;rw[zi]at e;cases e;exact new
  ·rw[zb hb]at e;exact(I.hok b u e).stay (λc v _ q=>q) (λc q=>st c _ q) λc xs q=>st c _ q
theorem pS {A:Around}{E:Value->Shared->Prop}{l f:Addr}{vs:List Value}{ps:List (Int×Int)}{Q:Value->Shared->Prop}(I:Inv X pins σ H s)(y:s.heap.IsList l vs.toArray)(hlen:vs.length=ps.length)(j:vs.length<64)
  (d:∀i v,vs[i]?=some v->∀H1 s1,Inv X pins σ H1 s1->(∀a o,H a=some o->H1 a=some o)->
   wpAny (model X.prog X.w) A.in1.in1 (call (.ref f) [v]) (λu s2=>∃t p,u=.ref t/\Inv X pins σ p s2/\(∀a o,H1 a=some o->p a=some o)/\p t=some (.tup [.int (at2 ps i).1,.int (at2 ps i).2])/\aD X H1 p s1 s2) (λ_ _=>False) s1)
  (h:∀D out H' s' c,s.heap.objs.size<=D->Srt vs ps out->Inv X pins σ H' s'->(∀a o,H a=some o->H' a=some o)->s'.heap.get? D=some (seqObj "list" out.toArray c)->H' D=none->yZ X pins H' D->Q (.ref D) s'):
  wpAny (model X.prog X.w) A (call (.builtin "sorted") [.ref l] [("key",.ref f)]) Q E s:=by
 refine call_function_entry_kw kind_sorted plain_sorted entry_sorted (ksk_s1 _ _) ?_;unfold Builtin.«sorted»;refine zX1 (m:=checkCount "sorted" 1 1 _) (zY6 ?_);refine zX1 (collect_list y ?_ (by rw[z41];exact fg j));refine zX1 (wpAny_newList ?_ (by rw[z41];exact fg j));have hsz:((s.heap.push (seqObj "list" #[] 0)).update s.heap.objs.size (Obj.mapSeq (·++vs.toArray))).objs.size=s.heap.objs.size+1:=by rw[Heap.size_update,size_push']
 have n:(((s.heap.push (seqObj "list" #[] 0)).update s.heap.objs.size (Obj.mapSeq (·++vs.toArray))).push (seqObj "list" vs.toArray 0)).get? (s.heap.objs.size+1)=some (seqObj "list" vs.toArray 0):=by rw[<-hsz];exact zY5 _ rfl
 have keep:∀b o,s.heap.get? b=some o->(((s.heap.push (seqObj "list" #[] 0)).update s.heap.objs.size (Obj.mapSeq (·++vs.toArray))).push (seqObj "list" vs.toArray 0)).get? b=some o:=λb o q=>by
  have g:b<s.heap.objs.size:=zY4 q;rw[Heap.get?_push_ne _ _ _ (by rw[hsz];exact zZ6 (ye0 g)),Heap.get?_update_ne _ _ _ _ (zZ6 g),Heap.get?_push_ne _ _ _ (zZ6 g)];exact q
 show wpAny _ _ _ _ _ {s with heap:=((s.heap.push (seqObj "list" #[] 0)).update s.heap.objs.size (Obj.mapSeq (·++vs.toArray))).push (seqObj "list" vs.toArray 0)};rw[hsz];have C:Inv X pins σ H {s with heap:=((s.heap.push (seqObj "list" #[] 0)).update s.heap.objs.size (Obj.mapSeq (·++vs.toArray))).push (seqObj "list" vs.toArray 0),toks:=s.toks}:=I.kept keep;have k:s.heap.objs.size<=s.heap.objs.size+1:=z76 _;refine zX1 (z43 (wpAny_call_entry_kw slot_list_sort ⟨_,n,rfl⟩ entry_list_sort ?body (ksk_l1 _ _)))
 case body=>
  rw[ksk_t1];refine mL (s:={s with heap:=((s.heap.push (seqObj "list" #[] 0)).update s.heap.objs.size (Obj.mapSeq (·++vs.toArray))).push (seqObj "list" vs.toArray 0)}) C n hlen j (I.hok.fresh k) (λz=>?_) (λH' hn=>I.fpOk k hn) d λout H' s' c x B st e r=>?_
  ·rcases zX6.mp (I.stkSub _ z)with q|q
   ·exact(I.fpOk (H':=λ_=>none) k rfl).2.1 q
   ·exact(I.fpOk (H':=λ_=>none) k rfl).2.2.1 q
  ·exact⟨_,rfl,zY6 ⟨_,rfl,h _ out H' s' c k x B st e r (I.fpOk k r)⟩⟩
end
section
variable {X:Cx}{a:Expr}{p pos kpos lpos p1 p2 p3 p4 p5 p6:Pos}{n1:Nat}{x y:Str}{params:Arguments}{scope:Scope}
abbrev pairE (x y:Str)(n1:Nat)(p1 p2 p3 p4 p5 p6:Pos):Expr:=.Tuple [.Subscript (.Name y p1) (.Name x p2) p3,.UnaryOp .USub (.Name x p4) p5] n1 p6
def keyOf (zs:List Int)(n:Int):Int×Int:=(zs.getD n.toNat 0,-n)
theorem zf5 {P:Program}{w:World}{K:PySem.W.Frag}{mg:Str->Option Value}{base:Heap}{f c cl l:Addr}{A:Around}{outer:List Env}{s:Shared}{H:Hp}{u ul:Value}{k:Nat}{n:Int}{zs:List Int}
  (S:xT x y params scope) (hr:zM k A) (m:uB P w K mg base A outer s H) (hf:H f=some (ko f c xF params (pairE x y n1 p1 p2 p3 p4 p5 p6) scope [(y,cl)])) (q:H c=some (uQ c)) (hcl:s.heap.IsCell cl (some ul)) (b:H cl=none) (g:RelV (.int n) u) (o:RelV (.ref l) ul)
  (hb:∀pm ctv,bindArgs (PySem.W.kla_fn "<lambda>" xF params (pairE x y n1 p1 p2 p3 p4 p5 p6) scope [(y,cl)] pm (.ref c) ctv) ⟨[u],[]⟩=pure [(x,u)])
  (hdx:(x == ("__debug__":Str))=false) (hdy:(y == ("__debug__":Str))=false) (hcx:(x == ("__classdict__":Str))=false) (hcy:(y == ("__classdict__":Str))=false)
  (e:SqL K H l (zs.map V.int)) (h0:0<=n) (h1:n<zs.length):
  codeAny (model P w) A (.call (.ref f) ⟨[u],[]⟩) (CR CX0 outer P w H s (λv H'=>∃t,v=.ref t/\H t=none/\H'=upd H t (.tup [.int (keyOf zs n).1,.int (keyOf zs n).2])) E0) s:=by
 obtain⟨j,rfl⟩:=z50 h0;have d:j<zs.length:=(om9 h1);refine ze5 S hr m hf q hcl b g o hb (t:=_) (lu (zr (yx zQ (xg (i:=1) rfl (Or.inr (Or.inr S.py)) hdy hcy) (xg (i:=0) rfl (Or.inl S.px) hdx hcx) (λ_ _=>rfl)) (zr (zr8 eM (xg (i:=0) rfl (Or.inl S.px) hdx hcx)) zD))) ?_;refine⟨_,rfl,_,rfl,l,_,_,.int (zs.getD j 0),rfl,rfl,e,zW ?_,_,rfl,_,rfl,(by show 2<=sizeLine;decide),λt h=>⟨t,rfl,h,?_⟩⟩
 ·rw[zY3,zX3 d,zY2,zX3 d];rfl
 ·simp[keyOf]
def tu (ns zs ms:List Int):Prop:=ms.Perm ns/\ms.Pairwise λm k=>lx (keyOf zs k) (keyOf zs m)=false
theorem zc4 {ns zs:List Int}{vs out:List Value}(r:Vals (ns.map V.int) vs)(h:Srt vs (ns.map (keyOf zs)) out):∃ms,tu ns zs ms/\Vals (ms.map V.int) out:=by
 obtain⟨b,rfl,d,hb,c,hw⟩:=h;have at_:∀i∈b,at2 (ns.map (keyOf zs)) i=keyOf zs (ns.getD i 0):=λi hi=>by
  have:=hb i hi;rw[zX0]at this;unfold at2;rw[zY2,zY3,zX3 this,zY2,zX3 this];rfl
 have em:b.map (at2 (ns.map (keyOf zs)))=(b.map λi=>ns.getD i 0).map (keyOf zs):=by
  rw[z40];exact List.map_congr_left at_
 rw[em]at c hw;have inv:∀l:List Int,(l.map (keyOf zs)).map (λq=>-q.2)=l:=λl=>by
  rw[z40];have:((λq:Int×Int=>-q.2)∘keyOf zs)=id:=by funext n;simp[keyOf]
  rw[this,List.map_id]
 refine⟨b.map λi=>ns.getD i 0,⟨?_,List.pairwise_map.mp hw⟩,?_⟩
 ·have:=c.map (λq=>-q.2)
  rwa [inv,inv]at this
 ·clear em c hw d
  induction b with
  |nil=>exact .nil
  |cons i b e=>
   refine .cons ?_ (e (λk hk=>hb k (zX8 _ hk)) λk hk=>at_ k (zX8 _ hk));have hi:=hb i zX9;rw[zX0]at hi;refine mC r i _ ?_;show _=some (V.int (ns.getD i 0));rw[zY3,zX3 hi,zY2,zX3 hi];rfl
theorem wy {K:PySem.W.Frag}{H H':Hp}{a:Addr}{xs:List V}(h:SqL K H a xs)(k:∀a o,(∀ps,o≠.tbl ps)->H a=some o->H' a=some o):SqL K H' a xs:=by
 rcases h with(h|⟨o,h⟩)|h
 ·exact .inl (.inl (k _ _ (λ_ z=>by cases z) h))
 ·exact .inl (.inr ⟨o,k _ _ (λ_ z=>by cases z) h⟩)
 ·exact .inr h
theorem mV {ta:TE}{j k:Nat}{c:Addr}(S:xT x y params scope)(hr:zM (k+2) X.A)(hg:Gl X "sorted")(hm:X.mg "sorted"=none)(hN:X.N[j]?=some y)(hy:X.env.scope.names.lookup y=some .cell)
  (hcl:∀cl,X.env.cells.lookup y=some cl->closureFor scope X.env=pure [(y,cl)]) (hgl:X.env.globals=mainGlobals) (hco:X.env.code=.ref c) (hhd:PySem.W.CodeHd X.base c yn) (hbi:X.base.BuiltinsAt X.mg yn) (hdf:defaultsOf params X.env=([],[])) (hq:X.env.qual++("<lambda>":Str)=xF) (hne:mainGlobals≠yn)
  (hb:∀u cl c' pm ctv,bindArgs (PySem.W.kla_fn "<lambda>" xF params (pairE x y n1 p1 p2 p3 p4 p5 p6) scope [(y,cl)] pm (.ref c') ctv) ⟨[u],[]⟩=pure [(x,u)])
  (hdx:(x == ("__debug__":Str))=false) (hdy:(y == ("__debug__":Str))=false) (hcx:(x == ("__classdict__":Str))=false) (hcy:(y == ("__classdict__":Str))=false) (ha:PE X a ta)
  (he:starEach [a] X.env=(false,eval a X.env)::starEach [] X.env:=by rfl) (b0:backTo pos (starEach [a] X.env)=(false,eval a X.env)::backTo pos (starEach [] X.env):=by rfl) (hpl:((backTo pos (starEach [a] X.env)).any λx=>x.1)=false:=by rfl):
  PE X (.Call (.Name "sorted" p) [a] [⟨some "key",.Lambda params (pairE x y n1 p1 p2 p3 p4 p5 p6) scope lpos,kpos⟩] pos)
   (λσ H Q=>ta σ H λv H1=>∃l ns L zs,v=.ref l/\SqL X.K H1 l (ns.map V.int)/\σ[j]?=some (some (.ref L))/\SqL X.K H1 L (zs.map V.int)/\ns.length<64/\(∀n∈ns,0<=n/\n<zs.length)/\TabAt H1/\
    ∀D H' ms,H1 D=none->H' D=some (.lst (ms.map V.int))->tu ns zs ms->TabAt H'->(∀a o,a≠yn->H1 a=some o->H' a=some o)->Q (.ref D) H'):=by
 intro pins s σ H Q I h;refine z93 (yO I hg hm boot_sorted ?_)
 let Pd:V->Hp->Prop:=λv H1=>∃l ns L zs,v=.ref l/\SqL X.K H1 l (ns.map V.int)/\σ[j]?=some (some (.ref L))/\SqL X.K H1 L (zs.map V.int)/\ns.length<64/\(∀n∈ns,0<=n/\n<zs.length)/\TabAt H1/\
    ∀D H' ms,H1 D=none->H' D=some (.lst (ms.map V.int))->tu ns zs ms->TabAt H'->(∀a o,a≠yn->H1 a=some o->H' a=some o)->Q (.ref D) H'
 refine callWith_kw (thn (zr ha zD he pos pins s σ H (λvs H1=>match vs with|[v]=>Pd v H1|_=>False) I h) λus s1 a8=>?_) b0 hpl;obtain⟨vs,H1,I1,r1,q1⟩:=a8
 match vs,r1,q1 with
 |[v],r1,q1=>
  obtain⟨u,rfl,ru⟩:=vals1 r1;obtain⟨l,ns,L,zs,rfl,hS,P,hZ,R,b1,T,q⟩:=(show Pd v H1 from q1);obtain⟨m,hn,hl⟩:=id I1.loc;obtain⟨ul,rl,lk⟩:=hl j y _ hN P (.inr (.inl hy));obtain⟨cl,G,a1⟩:∃cl,X.env.cells.lookup y=some cl/\s1.heap.IsCell cl (some ul):=by
   rcases lk with⟨z,_⟩|⟨_,cl,z1,z2⟩
   ·have z:X.env.scope.names.lookup y=some .local:=z;rw[hy]at z;cases z
   ·exact⟨cl,z1,z2⟩
  show wpAny _ _ (evalAll ((do let v <-eval (.Lambda params (pairE x y n1 p1 p2 p3 p4 p5 p6) scope lpos) X.env;standAt pos;pure v)::[])) _ _ s1;refine wpAny_evalAll_cons (zX1 (cq I1 (hcl cl G) hgl hco hhd hbi hdf hq hne T λf c' H2 s2 I2 T2 O a6 hf Z J=>zX1 (wpAny_standAt (zY6 (wpAny_evalAll_nil ?_)))));cases ru;show wpAny _ _ (call (.builtin "sorted") [.ref l] [("key",.ref f)]) _ _ s2;have w:∀a o,(∀ps,o≠.tbl ps)->H1 a=some o->H2 a=some o:=λa o no e=>O a o (λz=>by
   obtain⟨ps,t1,_⟩:=T.ex;rw[z,t1]at e;cases e;exact no _ rfl) e
  have S2:=wy hS w;have Z2:=wy hZ w;obtain⟨a5,r,ht,hz⟩:=I2.list S2;have B:a5.length=ns.length:=by rw[<-r.length,zX0]
  refine pS (ps:=ns.map (keyOf zs)) I2 ht.isList (by rw[zX0];exact B) (zZ5 (zZ3 B) R) (λi v hv H3 s3 I3 w=>?_) λD out H' s' c0 lD so I' st e fD fp=>?_
  ·have hi:i<ns.length:=by rw[<-B];exact(zX5.mp hv).1
   have rv:RelV (.int ns[i]) v:=by
    have:=mC r i (.int ns[i]) (by rw[zY3,zX3 hi];rfl)
    rwa [zY2,hv]at this
   obtain⟨m3,b4,a3⟩:=id I3.loc;obtain⟨a7,a4,a2⟩:=a3 j y _ hN P (.inr (.inl hy));have F:s3.heap.IsCell cl (some a7):=by
    rcases a2 with⟨z,_⟩|⟨_,b3,z1,z2⟩
    ·have z:X.env.scope.names.lookup y=some .local:=z;rw[hy]at z;cases z
    ·rw[G]at z1;cases z1;exact z2
   have M:=b1 ns[i] (z57 hi);have ek:at2 (ns.map (keyOf zs)) i=keyOf zs ns[i]:=by
    unfold at2;rw[zY2,zY3,zX3 hi];rfl
   rw[ek];have Z3:=wy Z2 λa o _ e=>w a o e;refine wpAny_call (yf1 (zf5 S hr.in1.in1 I3.env0.in1.in1 (w _ _ Z) (w _ _ J) F (I3.freeC y cl G) rv a4 (λpm ctv=>hb _ _ _ pm ctv) hdx hdy hcx hcy Z3 M.1 M.2) λrr s4 C=>?_);cases rr with
   |error e=>exact False.elim C
   |ok fl=>
    cases fl with
    |next=>exact False.elim C
    |brk=>exact False.elim C
    |cont=>exact False.elim C
    |ret u4=>
     obtain⟨v4,H4,os,bare,un,hok,r4,t,rfl,a0,U⟩:=C;cases r4;obtain⟨hh,g,d,tk,a9⟩:=s4;obtain rfl:a9=s3.os:=os;refine⟨t,H4,rfl,I3.call (h':=hh) (g':=g) (d':=d) (t':=tk) (ch:=[]) un hok bare (λb z=>absurd z (by simp)),λa o e=>?_,by rw[U];exact zi,λb o e n nf=>⟨un.keep b o e n nf (by simp),un.free b o e n (by simp)⟩⟩;rw[U,zb (zj e a0)];exact e
  ·obtain⟨ms,sm,rm⟩:=zc4 r so;have nD:∀a o,H' a=some o->a≠D:=λa o e z=>by rw[z,fD]at e;cases e
   have E:H2 D=none:=I2.hok.fresh lD;have Y:∀a o,H2 a=some o->upd H' D (.lst (ms.map V.int)) a=some o:=λa o e=>by rw[zb (nD a o (st a o e))];exact st a o e
   refine⟨.ref D,upd H' D (.lst (ms.map V.int)),I'.adopt fp ⟨?_,out,c0,rm,e⟩,rfl,q D _ ms ?_ zi sm (T2.same λa o _ e=>Y a o e) λa o no e=>Y a o (O a o no e)⟩
   ·rw[zX0,sm.1.length_eq,z41];exact fg R
   ·cases z:H1 D with
    |none=>rfl
    |some o=>
     by_cases nt:∀ps,o≠.tbl ps
     ·rw[w D o nt z]at E;cases E
     ·simp only[Classical.not_forall,Classical.not_not]at nt;obtain⟨qs,rfl⟩:=nt;obtain⟨b2,w'⟩:=a6 D qs z;rw[w']at E;cases E
end
section
variable {X:Cx}{α:Ev}{p q pos:Pos}{a b:Expr}
theorem rN {G:Hp}:∀ns:List Int,AVs G (ns.map V.int) (ns.map .int)
 |[]=>.nil
 |n::ns=>.cons (.int n) (rN ns)
theorem dR {Q:List PyData->Prop}(L:X.calm=true)(hg:Gl X "list")(hm:X.mg "list"=none)(f:Gl X "range")(t:X.mg "range"=none)(h:EvD X α a λx=>EvD X α b λy=>∃i j,x=.int i/\y=.int j/\(-(2 ^ 62)<=i/\i<2 ^ 62/\-(2 ^ 62)<=j/\j<2 ^ 62)/\(j-i).toNat<=1000/\Q ((zo i (j-i).toNat).map .int))
  (he:starEach [.Call (.Name "range" q) [a,b] [] p] X.env=(false,eval (.Call (.Name "range" q) [a,b] [] p) X.env)::starEach [] X.env:=by rfl) (e:starEach [a,b] X.env=(false,eval a X.env)::starEach [b] X.env:=by rfl) (n:starEach [b] X.env=(false,eval b X.env)::starEach [] X.env:=by rfl)
  (hpl:(backTo p (starEach [b] X.env)).any (·.1)=false:=by rfl) {D:Pos}:EvL X α (.Call (.Name "list" D) [.Call (.Name "range" q) [a,b] [] p] [] pos) Q:=λF σ H R m k=>by
 refine⟨_,yF (qf L) hg hm boot_list (zr (yF nQ f t boot_range (zr zf (zr zf zD n) e) (he:=e) (hpl:=hpl)) zD he) (he:=he),?_⟩;refine h F σ H _ m λx N H1 E t1 w K=>?_;have m1:=m.kz w t1;refine E F σ H1 _ m1 λy O s G u v J=>?_;have m2:=m1.kz v u;obtain⟨i,j,rfl,rfl,⟨B,M,I,C⟩,hz,q⟩:=G;cases K.int_inv;cases J.int_inv;refine⟨i,j,rfl,λr hr=>?_⟩;refine⟨r,i,j,rfl,zi,⟨B,M,I,C⟩,z30 (yw hz),by lia,λl d=>?_⟩;have g:l≠r:=λz=>by rw[z,zi]at d;cases d
 have c:s l=none:=by rw[zb g]at d;exact d
 have A:=w.trans v;have s1:zz s (upd (upd s r (.rng i j)) l (.lst ((zo i (j-i).toNat).map V.int))):=(ye hr).trans (ye d);refine k _ _ _ q (u.same s1) (A.trans (Kz.of_same s1)) ⟨l,_,rfl,?_,zi,rN _⟩;cases z:H l with
 |none=>rfl
 |some o=>rw[A l o z (m.tp.nt (ow0 (m2.fresh c)))]at c;cases c
end
section
variable {X:Cx}{α:Ev}{p pos:Pos}{a b:Expr}{Q:PyData->Prop}
end
theorem AVs.ints {H:Hp}{xs:List V}{ns:List Int}(h:AVs H xs (ns.map .int)):xs=ns.map V.int:=by
 induction ns generalizing xs with
 |nil=>cases h;rfl
 |cons n ns a=>cases h with
  |cons h b=>rw[zZ2,a b,h.int_inv]
section
variable {X:Cx}{α:Ev}{a:Expr}{p pos kpos lpos p1 p2 p3 p4 p5 p6:Pos}{n1:Nat}{x y:Str}{params:Arguments}{scope:Scope}
structure cK (X:Cx)(c:Addr)(x y:Str)(n1:Nat)(p1 p2 p3 p4 p5 p6:Pos)(params:Arguments)(scope:Scope):Prop where
 S:xT x y params scope
 hy:X.env.scope.names.lookup y=some .cell
 hcl:∀cl,X.env.cells.lookup y=some cl->closureFor scope X.env=pure [(y,cl)]
 hgl:X.env.globals=mainGlobals
 hco:X.env.code=.ref c
 hhd:PySem.W.CodeHd X.base c yn
 hbi:X.base.BuiltinsAt X.mg yn
 hdf:defaultsOf params X.env=([],[])
 hq:X.env.qual++("<lambda>":Str)=xF
 hne:mainGlobals≠yn
 hb:∀u cl c' pm ctv,bindArgs (PySem.W.kla_fn "<lambda>" xF params (pairE x y n1 p1 p2 p3 p4 p5 p6) scope [(y,cl)] pm (.ref c') ctv) ⟨[u],[]⟩=pure [(x,u)]
 hdx:(x == ("__debug__":Str))=false
 hdy:(y == ("__debug__":Str))=false
 hcx:(x == ("__classdict__":Str))=false
 hcy:(y == ("__classdict__":Str))=false
theorem lG {j k:Nat}{c:Addr}{Q:List PyData->Prop}(T:cK X c x y n1 p1 p2 p3 p4 p5 p6 params scope)(hr:zM (k+2) X.A)(hg:Gl X "sorted")(hm:X.mg "sorted"=none)(G:X.N[j]?=some y)
  (h:EvD X α a λd=>∃ns zs:List Int,d=.list (ns.map .int)/\α[j]?=some (some (.dat (.list (zs.map .int))))/\ns.length<64/\(∀n∈ns,0<=n/\n<zs.length)/\∀ms,tu ns zs ms->Q (ms.map .int))
  (he:starEach [a] X.env=(false,eval a X.env)::starEach [] X.env:=by rfl) (f:backTo pos (starEach [a] X.env)=(false,eval a X.env)::backTo pos (starEach [] X.env):=by rfl) (hpl:((backTo pos (starEach [a] X.env)).any λx=>x.1)=false:=by rfl):
  EvL X α (.Call (.Name "sorted" p) [a] [⟨some "key",.Lambda params (pairE x y n1 p1 p2 p3 p4 p5 p6) scope lpos,kpos⟩] pos) Q:=λF σ H R m k=>by
 refine⟨_,mV (j:=j) T.S hr hg hm G T.hy T.hcl T.hgl T.hco T.hhd T.hbi T.hdf T.hq T.hne T.hb T.hdx T.hdy T.hcx T.hcy zf he f hpl,?_⟩;refine h F σ H _ m λd O H1 B t1 u L=>?_;have m1:=m.kz u t1;obtain⟨ns,zs,rfl,hz,s,r,q⟩:=B;obtain⟨l,xs,rfl,g1,g2⟩:=L.lst_inv;obtain⟨v,s1,s2⟩:=m1.dat j _ hz;obtain⟨E,ys,rfl,g3,C⟩:=s2.lst_inv;cases g2.ints;cases C.ints;refine⟨l,ns,E,zs,rfl,SqL.of (zc g1).2,s1,SqL.of (zc g3).2,s,r,t1.tab,λD H' ms i g K J kp=>?_⟩;have w:∀a xs,H1 a=some (.lst xs)->H' a=some (.lst xs):=λa xs e=>kp a _ (λz=>by
  obtain⟨ps,e1,_⟩:=t1.tab.ex;rw[z,e1]at e;cases e) e
 have kz:Kz F H1 H':=λx o e n=>kp x o n.2 e;refine k _ _ H' (q ms K) ⟨J,t1.ot,λt b c e=>⟨?_,(t1 t b c e).2⟩⟩ (u.trans kz) ⟨D,_,rfl,?_,g,rN _⟩
 ·obtain⟨n,bs,cs,n1,e1,M,I,l1,l2⟩:=(t1 t b c e).1.ex;exact⟨n,bs,cs,n1,w _ _ e1,w _ _ M,w _ _ I,l1,l2⟩
 ·cases z:H D with
  |none=>rfl
  |some o=>rw[u D o z (m.tp.nt (ow0 (m1.fresh i)))]at i;cases i
end
section
variable {P:Program}{w:World}{K:PySem.W.Frag}{mg:Str->Option Value}{base:Heap}
theorem zS3 {x qual:Str}{st:Stmt}{f:Addr}{N ps:List Str}{k:Nat}{φ:List A->(A->Prop)->Prop}{oc:Value}{od an:Option Addr}{osl:Array (Option Value)}{kV doc pm cdv ct:Value}
  (p:K.lookup f=some ⟨oc,od,.func (PySem.W.fnOf x qual (zR st) (zu st) (zg st) .none kV doc pm an cdv ct),osl⟩) (g:PySem.W.codeIn K cdv qual=true) (S:ya N ps (zg st)) (hlen:∀as Q,φ as Q->as.length=ps.length)
  (c:∀(d:Around) (outer:List Env) (s:Shared) (H:Hp) (E:XK) (as:List A) (Q:A->Prop),zM k (d.deeper (envOfC qual (zg st) s.heap.objs.size f cdv))->φ as Q->
   SvS (wW CX0 P w K mg base N qual (zg st) f cdv d outer s H E).nox (as.map some++List.replicate (N.length-as.length) none) (zu st) {nx:=λ_=>Q (.dat .none),rt:=Q}):yC P w K mg base CX0 (k+1) f (PySem.W.fnOf x qual (zR st) (zu st) (zg st) .none kV doc pm an cdv ct) ps (spA φ):=by
 refine eI p g S (λvs H Q E h=>?_) (λd outer s H vs l E hr h=>?_)
 ·obtain⟨F,as,j,_,_,_,i,b,_⟩:=h;rw[i.length,hlen as _ b]
 ·obtain⟨F,as,j,e,t,o,i,b,n⟩:=h;have:=c d outer s H E as j hr b F _ H {nx:=λ_ H'=>l .non H',rt:=l} (M.start e t o i) ⟨λα σ H' m q=>?_,λa v H' r q=>n a v H' q r,λ_ _ _ _ z=>z.elim,λ_ _ _ _ z=>z.elim⟩
  ·obtain⟨t,h,q⟩:=this;exact⟨t,h.nox,q⟩
  ·exact n _ _ _ q ⟨m.tp,m.keep,.non⟩
end
section
variable {X:Cx}{α:Ev}{Q:PyData->Prop}{a b:Expr}{pos:Pos}
end
theorem ng (c:Int)(n:Nat):zo c (n+1)=zo c n++[c+(n:Nat)]:=by simp[zo,List.range_succ]
theorem yB {c m:Int}{n:Nat}:m∈zo c n↔c<=m/\m<c+n:=by
 simp only[zo,z06,List.mem_range]
 constructor
 ·rintro⟨i,hi,rfl⟩;lia
 ·rintro⟨h1,h2⟩;exact⟨(m-c).toNat,by lia,(zQ8 h1)⟩
theorem qR (c:Int):∀n:Nat,(zo c n).Nodup
 |0=>by simp[zo]
 |n+1=>by
  rw[ng,List.nodup_append];refine⟨qR c n,by simp,?_⟩;intro a ha b hb;rw[yB]at ha;simp at hb;exact Int.ne_of_lt (z81 ha.2 (Int.le_of_eq hb.symm))
def tw (zs:List Int)(many free i:Nat)(bs:List Bool):Prop:=
 bs.length=zs.length/\(∀j,i / many*many<=j->bs.getD j false=false)/\∀k,k<i / many->∃ms:List Int,tu (zo ((k*many:Nat):Int) many) zs ms/\∀q,q<many->bs.getD (ms.getD q 0).toNat false=decide (q<free)
theorem gG (zs:List Int){many:Nat}(free:Nat):tw zs many free 0 (List.replicate zs.length false):=by
 refine⟨by simp,λj _=>?_,λk hk=>?_⟩
 ·rw[zY2,z73];split<;>rfl
 ·rw[Nat.zero_div]at hk;exact(z26 _ (zZ5 (zY9 _) hk)).elim
theorem sY {i many:Nat}(h:0<many)(h1:i % many+1<many):(i+1) / many=i / many/\(i+1) % many=i % many+1:=by
 have e:=z84 i many;have a:i+1=(i % many+1)+many*(i / many):=by lia
 constructor
 ·rw[a,Nat.add_mul_div_left _ _ h,Nat.div_eq_of_lt h1,Nat.zero_add]
 ·rw[a,Nat.add_mul_mod_self_left,Nat.mod_eq_of_lt h1]
theorem mh {i many:Nat}(h:0<many)(h1:i % many+1=many):(i+1) / many=i / many+1/\(i+1) % many=0/\(i / many+1)*many=i+1:=by
 have e:=z84 i many;have a:many*(i / many+1)=i+1:=by rw[Nat.mul_add,Nat.mul_one];lia
 refine⟨?_,?_,?_⟩
 ·rw[<-a,Nat.mul_div_cancel_left _ h]
 ·rw[<-a,Nat.mul_mod_right]
 ·rw[yf6];exact a
theorem gh {zs:List Int}{many free i:Nat}{bs:List Bool}(h:0<many)(h1:i % many+1<many)(m:tw zs many free i bs):tw zs many free (i+1) bs:=by
 unfold tw at *;rw[(sY h h1).1];exact m
theorem uh {lo:Int}{n:Nat}{zs ms:List Int}(s:tu (zo lo n) zs ms){q:Nat}(h:q<n):lo<=ms.getD q 0/\ms.getD q 0<lo+n:=by
 have a:ms.length=n:=by rw[s.1.length_eq,zd]
 have:ms.getD q 0∈ms:=by
  rw[zY2,zX3 (zX4 h (zZ3 a.symm))];exact z57 _
 exact yB.mp (s.1.mem_iff.mp this)
theorem gj {zs ms:List Int}{many free i:Nat}{bs a:List Bool}(h:0<many)(h1:i % many+1=many)(m:tw zs many free i bs)(s:tu (zo ((i / many*many:Nat):Int) many) zs ms)
  (n:a.length=bs.length) (e1:∀q,q<many->a.getD (ms.getD q 0).toNat false=decide (q<free)) (f:∀j,(∀q,q<many->(ms.getD q 0).toNat≠j)->a.getD j false=bs.getD j false):tw zs many free (i+1) a:=by
 obtain⟨g,t,l⟩:=mh h h1;obtain⟨m1,m2,m3⟩:=m;refine⟨by rw[n,m1],λj o=>?_,λk hk=>?_⟩
 ·rw[g,l]at o;have e:=z84 i many;have r:i / many*many=many*(i / many):=yf6 _ _;rw[f j λq hq=>?_,m2 j (by lia)];have:=uh s hq
  lia
 ·rw[g]at hk;by_cases b:k=i / many
  ·subst b;exact⟨ms,s,e1⟩
  ·obtain⟨d,s2,f2⟩:=m3 k (eQ hk b);refine⟨d,s2,λq hq=>?_⟩;rw[f _ λp c=>?_,f2 q hq];have a1:=uh s c;have a2:=uh s2 hq;have:(k+1)*many<=i / many*many:=z71 _ (by lia);rw[Nat.add_mul,Nat.one_mul]at this
   lia
theorem zE5 {lo:Int}{n:Nat}{zs ms:List Int}(s:tu (zo lo n) zs ms){m:Int}(h1:lo<=m)(h2:m<lo+n):∃q,q<n/\ms.getD q 0=m:=by
 have a:ms.length=n:=by rw[s.1.length_eq,zd]
 obtain⟨q,hq,e⟩:=yf7.mp (s.1.mem_iff.mpr (yB.mpr ⟨h1,h2⟩));exact⟨q,(zX4 hq (zZ3 a)),by rw[zY2,zX3 hq];exact e⟩
open PySem (IsZip)
section
variable {prog:Program}{w:World}{A:Around}{E:Value->Shared->Prop}{s:Shared}
theorem nR {M:Model}{a:Addr}{Q:Option Obj->Shared->Prop}(h:Q (s.heap.get? a) s):wpAny M A (loadIfAlive a) Q E s:=λc p b=>by
 show Sem.wp M c (.loadIfAlive a .pure) _ _ p s;rw[Sem.wp_loadIfAlive];exact h
abbrev zO (f0 f1:Value)(TI TO:Addr):Obj:={cls:=.type "zip",dict:=none,data:=.fields #[f0,f1,.bool false,.ref TI,.ref TO],slots:=#[]}
abbrev tO3 (a b c:Value):Obj:={cls:=.type "tuple",data:=.seq #[a,b,c]}
theorem xO {T:Addr}{a b c x:Value}{k:Nat}{Q:Unit->Shared->Prop}(d:s.heap.get? T=some (tO3 a b c))
  (h:∀h',h'.get? T=some {cls:=.type "tuple",data:=.seq ((#[a,b,c]:Array Value).setIfInBounds k x)}->Heap.SameBut T s.heap h'->Q () {s with heap:=h'}):
  wpAny (model prog w) A (updateSeq T (·.setIfInBounds k x)) Q E s:=by
 refine z62 d rfl (h _ ?_ (yc1 ..));rw[ya4 _ d rfl];simp[Obj.mapSeq]
structure wG (h:Heap)(n:Nat)(l1 l2 l3:Addr)(k:Nat)(f0 f1 a b c:Value):Prop where
 z:h.get? (n+5:Nat)=some (zO f0 f1 (n+3:Nat) (n+4:Nat))
 ti:h.get? (n+3:Nat)=some (tO3 (.ref (n:Nat)) (.ref (n+1:Nat)) (.ref (n+2:Nat)))
 to:h.get? (n+4:Nat)=some (tO3 a b c)
 i1:h.IsListIter (n:Nat) l1 k
 i2:h.IsListIter (n+1:Nat) l2 k
 i3:h.IsListIter (n+2:Nat) l3 k
abbrev z3 (n:Nat):List Addr:=[(n:Nat),(n+1:Nat),(n+2:Nat),(n+3:Nat),(n+4:Nat),(n+5:Nat)]
theorem zp (a b:Nat)(h:a<b\/b<a):@Ne Addr a b:=λe=>by
 have e:@Eq Nat a b:=e
 lia
theorem mI {n l1 l2 l3:Nat}{k:Nat}{f1 a b c x y z:Value}{xs ys zs:Array Value}{Q:Value->Shared->Prop}(h1:l1<n)(h2:l2<n)(h3:l3<n)(Z:wG s.heap n l1 l2 l3 k .none f1 a b c)
  (a6:s.heap.IsList l1 xs) (a8:s.heap.IsList l2 ys) (a9:s.heap.IsList l3 zs) (hx:xs[k]?=some x) (hy:ys[k]?=some y) (hz:zs[k]?=some z)
  (hQ:∀h',wG h' n l1 l2 l3 (k+1) (rawInt s.heap.objs.size) (.bool false) x y z->h'.get? s.heap.objs.size=some (tO3 x y z)->
   (∀c o,c∉z3 n->s.heap.get? c=some o->h'.get? c=some o)->Q (.ref s.heap.objs.size) {s with heap:=h'}):
  wpAny (model prog w) A (Builtin.«zip.__next__» ⟨[.ref (n+5:Nat)],[]⟩) (λfin s'=>∃v,fin=.done (.ret v)/\Q v s') E s:=by
 obtain⟨H,V,a7,g1,g2,g3⟩:=Z;show wpAny _ _ (field (.ref _) 2 >>= _) _ _ _;refine zX1 (z79 H rfl (x:=.bool false) rfl ?_);show wpAny _ _ (field (.ref _) 3 >>= _) _ _ _;refine zX1 (z79 H rfl (x:=.ref (n+3:Nat)) rfl ?_);refine zX1 (z45 V rfl ?_);show wpAny _ _ (Builtin.SmallTypes.ownedTupleIsFree (.ref (n+5:Nat)) >>= _) _ _ _;refine zX1 ?_;unfold Builtin.SmallTypes.ownedTupleIsFree;refine zX1 (z79 H rfl (x:=.none) rfl (zY6 ?_));simp only[z92];refine zX1 (wpAny_rule ?_);refine zX1 (z79 H rfl (x:=.ref (n+4:Nat)) rfl ?_);refine zX1 (yd0 H (by simp) λa1 u f=>?_)
 replace u:a1.get? (n+5:Nat)=some (zO .ellipsis f1 (n+3:Nat) (n+4:Nat)):=u
 refine zX1 ?_;simp only[List.zipIdx_cons,List.zipIdx_nil,yf5,List.forIn_nil];refine zX1 (zX1 (wpAny_onRaise ?_));show wpAny _ _ (Builtin.SmallTypes.nextOf (.ref (n:Nat)) >>= _) _ _ _;refine zX1 (z64 (g1.extBut f.extBut (by refine zp _ _ ?_;exact aK)) (a6.extBut f.extBut (by refine zp _ _ ?_;exact .inl (zX4 h1 (zY8 _ _)))) hx λa2 L h=>zY6 ?_);have B:a2.get? (n+4:Nat)=some (tO3 a b c):=h.extBut _ _ (by refine zp _ _ ?_;exact zv0) (f.extBut _ _ (by refine zp _ _ ?_;exact cG) a7);refine zX1 (z45 B rfl ?_);refine zX1 (xO B λU q g=>?_)
 replace q:U.get? (n+4:Nat)=some (tO3 x b c):=q
 refine zX1 (z78 (zY6 ?_));refine zX1 (zX1 (wpAny_onRaise ?_));show wpAny _ _ (Builtin.SmallTypes.nextOf (.ref (n+1:Nat)) >>= _) _ _ _;refine zX1 (z64 (((g2.extBut f.extBut (by refine zp _ _ ?_;exact bZ)).extBut h.extBut (by refine zp _ _ ?_;exact .inr (z34 _))).extBut g.extBut (by refine zp _ _ ?_;exact bH))
  (((a8.extBut f.extBut (by refine zp _ _ ?_;exact .inl (zX4 h2 (zY8 _ _)))).extBut h.extBut (by refine zp _ _ ?_;exact .inl h2)).extBut g.extBut (by refine zp _ _ ?_;exact .inl (zX4 h2 (zY8 _ _)))) hy λa3 S i=>zY6 ?_)
 have D:a3.get? (n+4:Nat)=some (tO3 x b c):=i.extBut _ _ (by refine zp _ _ ?_;exact zt7) q;refine zX1 (z45 D rfl ?_);refine zX1 (xO D λa5 r j=>?_)
 replace r:a5.get? (n+4:Nat)=some (tO3 x y c):=r
 refine zX1 (z78 (zY6 ?_));refine zX1 (zX1 (wpAny_onRaise ?_));show wpAny _ _ (Builtin.SmallTypes.nextOf (.ref (n+2:Nat)) >>= _) _ _ _;refine zX1 (z64 (((((g3.extBut f.extBut (by refine zp _ _ ?_;exact za8)).extBut h.extBut (by refine zp _ _ ?_;exact zt4)).extBut g.extBut (by refine zp _ _ ?_;exact aR)).extBut i.extBut (by refine zp _ _ ?_;exact zp3)).extBut j.extBut (by refine zp _ _ ?_;exact aR))
  (((((a9.extBut f.extBut (by refine zp _ _ ?_;exact .inl (zX4 h3 (zY8 _ _)))).extBut h.extBut (by refine zp _ _ ?_;exact .inl h3)).extBut g.extBut (by refine zp _ _ ?_;exact .inl (zX4 h3 (zY8 _ _)))).extBut i.extBut (by refine zp _ _ ?_;exact .inl (zX4 h3 (zY8 _ _)))).extBut j.extBut (by refine zp _ _ ?_;exact .inl (zX4 h3 (zY8 _ _)))) hz λa4 M l=>zY6 ?_)
 have C:a4.get? (n+4:Nat)=some (tO3 x y c):=l.extBut _ _ (by refine zp _ _ ?_;exact zw8) r;refine zX1 (z45 C rfl ?_);refine zX1 (xO C λd p m=>?_)
 replace p:d.get? (n+4:Nat)=some (tO3 x y z):=p
 refine zX1 (z78 (zY6 (zY6 ?_)));refine zX1 (z45 p rfl ?_);refine zX1 (wpAny_newTuple ?_);have hsz:d.objs.size=s.heap.objs.size:=by rw[m.1,l.1,j.1,i.1,g.1,h.1,f.1]
 have W:∀c o,c≠(n+5:Nat)->c≠(n:Nat)->c≠(n+4:Nat)->c≠(n+1:Nat)->c≠(n+2:Nat)->s.heap.get? c=some o->d.get? c=some o:=λc o c1 c2 c3 c4 c5 e=>
  m.extBut _ _ c3 (l.extBut _ _ c5 (j.extBut _ _ c3 (i.extBut _ _ c4 (g.extBut _ _ c3 (h.extBut _ _ c2 (f.extBut _ _ c1 e))))))
 have G:d.get? (n+5:Nat)=some (zO .ellipsis f1 (n+3:Nat) (n+4:Nat)):=m.extBut _ _ (by refine zp _ _ ?_;exact aW) (l.extBut _ _ (by refine zp _ _ ?_;exact zw9) (j.extBut _ _ (by refine zp _ _ ?_;exact aW) (i.extBut _ _ (by refine zp _ _ ?_;exact zu6) (g.extBut _ _ (by refine zp _ _ ?_;exact aW) (h.extBut _ _ (by refine zp _ _ ?_;exact zp1) u)))));have R:d.IsListIter (n:Nat) l1 (k+1):=((((L.extBut g.extBut (by refine zp _ _ ?_;exact aB)).extBut i.extBut (by refine zp _ _ ?_;exact .inl (z34 _))).extBut j.extBut (by refine zp _ _ ?_;exact aB)).extBut l.extBut (by refine zp _ _ ?_;exact zr6)).extBut m.extBut (by refine zp _ _ ?_;exact aB);have N:d.IsListIter (n+1:Nat) l2 (k+1):=((S.extBut j.extBut (by refine zp _ _ ?_;exact bH)).extBut l.extBut (by refine zp _ _ ?_;exact zu4)).extBut m.extBut (by refine zp _ _ ?_;exact bH);have O:d.IsListIter (n+2:Nat) l3 (k+1):=M.extBut m.extBut (by refine zp _ _ ?_;exact aR);have I:=W _ _ (by refine zp _ _ ?_;exact ag) (by refine zp _ _ ?_;exact zx4) (by refine zp _ _ ?_;lia) (by refine zp _ _ ?_;exact zw3) (by refine zp _ _ ?_;exact zt3) V;have K:(n+5:Nat)<d.objs.size:=zY4 G;show wpAny _ _ (Builtin.SmallTypes.ownedTupleHandOut (.ref (n+5:Nat)) (.ref d.objs.size) >>= _) _ _ _;refine zX1 ?_;unfold Builtin.SmallTypes.ownedTupleHandOut;have P:(d.push {cls:=.type "tuple",data:=.seq #[x,y,z]}).get? (n+5:Nat)=some (zO .ellipsis f1 (n+3:Nat) (n+4:Nat)):=zX2 _ G;refine zX1 (yd0 P (by simp) λX t F=>?_)
 replace t:X.get? (n+5:Nat)=some (zO (rawInt d.objs.size) f1 (n+3:Nat) (n+4:Nat)):=t
 refine yd0 t (by simp) λhA J Y=>?_
 replace J:hA.get? (n+5:Nat)=some (zO (rawInt d.objs.size) (.bool false) (n+3:Nat) (n+4:Nat)):=J
 have up:∀c o,c≠(n+5:Nat)->d.get? c=some o->hA.get? c=some o:=λc o c1 e=>Y.extBut _ _ c1 (F.extBut _ _ c1 (zX2 _ e));have a0:hA.get? d.objs.size=some (tO3 x y z):=Y.extBut _ _ (z80 K) (F.extBut _ _ (z80 K) (zY5 _ rfl));rw[hsz]at J a0;refine zY6 ⟨_,rfl,?_⟩;show Q (.ref d.objs.size) _;rw[hsz];refine hQ hA ⟨J,up _ _ (by refine zp _ _ ?_;exact ag) I,up _ _ (by refine zp _ _ ?_;exact cG) p,R.at λo e=>up _ o (by refine zp _ _ ?_;exact aK) e,N.at λo e=>up _ o (by refine zp _ _ ?_;exact bZ) e,O.at λo e=>up _ o (by refine zp _ _ ?_;exact za8) e⟩ a0 λc o T e=>?_;simp only[z3,zX6,zZ1,z08,not_or]at T;exact up c o T.2.2.2.2.2 (W c o T.2.2.2.2.2 T.1 T.2.2.2.2.1 T.2.1 T.2.2.1 e)
theorem qF {n l1 l2 l3 k T:Nat}{f1 a b c:Value}{ot:Obj}{Q:Bool->Shared->Prop}(h1:l1<n)(h2:l2<n)(h3:l3<n)(Z:wG s.heap n l1 l2 l3 k (rawInt (T:Nat)) f1 a b c)(p:s.heap.get? T=some ot)
  (m:∀h' l,wG h' n l1 l2 l3 k (rawInt (T:Nat)) l a b c->h'.objs.size=s.heap.objs.size->(∀c o,c≠(n+5:Nat)->s.heap.get? c=some o->h'.get? c=some o)->Q false {s with heap:=h'}):
  wpAny (model prog w) A (Builtin.SmallTypes.ownedTupleIsFree (.ref (n+5:Nat))) Q E s:=by
 obtain⟨g,j,i,g1,g2,g3⟩:=Z;unfold Builtin.SmallTypes.ownedTupleIsFree;refine zX1 (z79 g rfl (x:=rawInt (T:Nat)) rfl ?_);show wpAny _ _ (loadIfAlive ((T:Int).toNat) >>= _) _ _ _;refine zX1 (nR ?_);rw[show((T:Int).toNat)=T from ya0 T,p];show wpAny _ _ (field (.ref (n+5:Nat)) 1 >>= _) _ _ _;refine zX1 (z79 g rfl (x:=f1) rfl ?_);refine z94 (λ_=>?_) (λ_=>?_)
 ·refine zX1 (yd0 g (by simp) λh f d=>zY6 ?_)
  replace f:h.get? (n+5:Nat)=some (zO (rawInt (T:Nat)) (.bool true) (n+3:Nat) (n+4:Nat)):=f
  exact m h _ ⟨f,d.extBut _ _ (by refine zp _ _ ?_;exact ag) j,d.extBut _ _ (by refine zp _ _ ?_;exact cG) i,g1.extBut d.extBut (by refine zp _ _ ?_;exact aK),g2.extBut d.extBut (by refine zp _ _ ?_;exact bZ),g3.extBut d.extBut (by refine zp _ _ ?_;exact za8)⟩ d.1 λc o q e=>d.extBut _ _ q e
 ·exact zY6 (m s.heap f1 ⟨g,j,i,g1,g2,g3⟩ rfl λ_ _ _ e=>e)
theorem iF {n l1 l2 l3 k T:Nat}{f1 a b c x y z:Value}{ot:Obj}{xs ys zs:Array Value}{Q:Value->Shared->Prop}(h1:l1<n)(h2:l2<n)(h3:l3<n)(Z:wG s.heap n l1 l2 l3 k (rawInt (T:Nat)) f1 a b c)(O:s.heap.get? T=some ot)
  (l:s.heap.IsList l1 xs) (p:s.heap.IsList l2 ys) (j:s.heap.IsList l3 zs) (P:xs[k]?=some x) (hy:ys[k]?=some y) (hz:zs[k]?=some z)
  (S:∀h' t,wG h' n l1 l2 l3 (k+1) (rawInt (T:Nat)) t a b c->h'.get? s.heap.objs.size=some (tO3 x y z)->
   (∀c o,c∉z3 n->s.heap.get? c=some o->h'.get? c=some o)->Q (.ref s.heap.objs.size) {s with heap:=h'}):
  wpAny (model prog w) A (Builtin.«zip.__next__» ⟨[.ref (n+5:Nat)],[]⟩) (λfin s'=>∃v,fin=.done (.ret v)/\Q v s') E s:=by
 show wpAny _ _ (field (.ref _) 2 >>= _) _ _ _;refine zX1 (z79 Z.z rfl (x:=.bool false) rfl ?_);show wpAny _ _ (field (.ref _) 3 >>= _) _ _ _;refine zX1 (z79 Z.z rfl (x:=.ref (n+3:Nat)) rfl ?_);refine zX1 (z45 Z.ti rfl ?_);show wpAny _ _ (Builtin.SmallTypes.ownedTupleIsFree (.ref (n+5:Nat)) >>= _) _ _ _;refine zX1 (qF h1 h2 h3 Z O λF t ZB H D=>?_);obtain⟨J,G,I,g1,g2,g3⟩:=ZB
 replace l:F.IsList l1 xs:=l.at λo e=>D _ o (by refine zp _ _ ?_;exact .inl (zX4 h1 (zY8 _ _))) e
 replace p:F.IsList l2 ys:=p.at λo e=>D _ o (by refine zp _ _ ?_;exact .inl (zX4 h2 (zY8 _ _))) e
 replace j:F.IsList l3 zs:=j.at λo e=>D _ o (by refine zp _ _ ?_;exact .inl (zX4 h3 (zY8 _ _))) e
 simp only[z25,z65];rw[yg6];simp only[yf5,List.forIn_nil];refine zX1 (zX1 (zX1 (z43 ?_)));show wpAny _ _ (Builtin.SmallTypes.nextOf (.ref (n:Nat)) >>= _) _ _ _;refine zX1 (z64 g1 l P λK q d=>zY6 (zY6 ?_));refine zX1 (zX1 (z43 ?_));show wpAny _ _ (Builtin.SmallTypes.nextOf (.ref (n+1:Nat)) >>= _) _ _ _;refine zX1 (z64 (g2.extBut d.extBut (by refine zp _ _ ?_;exact .inr (z34 _))) (p.extBut d.extBut (by refine zp _ _ ?_;exact .inl h2)) hy λL m f=>zY6 (zY6 ?_));refine zX1 (zX1 (z43 ?_));show wpAny _ _ (Builtin.SmallTypes.nextOf (.ref (n+2:Nat)) >>= _) _ _ _;refine zX1 (z64 ((g3.extBut d.extBut (by refine zp _ _ ?_;exact zt4)).extBut f.extBut (by refine zp _ _ ?_;exact zp3)) ((j.extBut d.extBut (by refine zp _ _ ?_;exact .inl h3)).extBut f.extBut (by refine zp _ _ ?_;exact .inl (zX4 h3 (zY8 _ _)))) hz λg B h=>zY6 (zY6 (zY6 ?_)));refine zX1 (wpAny_newTuple ?_ (by show 3<=sizeLine;decide));have hsz:g.objs.size=s.heap.objs.size:=by rw[h.1,f.1,d.1];exact H
 have i:∀c o,c≠(n:Nat)->c≠(n+1:Nat)->c≠(n+2:Nat)->F.get? c=some o->g.get? c=some o:=λc o R N M e=>h.extBut _ _ M (f.extBut _ _ N (d.extBut _ _ R e));have up:∀c o,g.get? c=some o->(g.push {cls:=.type "tuple",data:=.seq #[x,y,z]}).get? c=some o:=λc o e=>zX2 _ e;have r:g.IsListIter (n:Nat) l1 (k+1):=(q.extBut f.extBut (by refine zp _ _ ?_;exact .inl (z34 _))).extBut h.extBut (by refine zp _ _ ?_;exact zr6);have u:g.IsListIter (n+1:Nat) l2 (k+1):=m.extBut h.extBut (by refine zp _ _ ?_;exact zu4);refine zY6 ⟨_,rfl,?_⟩;show Q (.ref g.objs.size) _;rw[hsz];refine S _ t ⟨up _ _ (i _ _ (by refine zp _ _ ?_;exact zp1) (by refine zp _ _ ?_;exact zu6) (by refine zp _ _ ?_;exact zw9) J),up _ _ (i _ _ (by refine zp _ _ ?_;exact zx4) (by refine zp _ _ ?_;exact zw3) (by refine zp _ _ ?_;exact zt3) G),up _ _ (i _ _ (by refine zp _ _ ?_;exact zv0) (by refine zp _ _ ?_;exact zt7) (by refine zp _ _ ?_;exact zw8) I),r.at λo e=>up _ o e,u.at λo e=>up _ o e,B.at λo e=>up _ o e⟩ ?_ λc o C e=>?_
 ·rw[<-hsz];exact zY5 _ rfl
 ·simp only[z3,zX6,zZ1,z08,not_or]at C;exact up c o (i c o C.1 C.2.1 C.2.2.1 (D c o C.2.2.2.2.2 e))
theorem zc6 {n l1 l2 l3 k T:Nat}{f1 a b c:Value}{ot:Obj}{xs:Array Value}{Q:PySem.Fin->Shared->Prop}(t:A.handled=none)(h1:l1<n)(h2:l2<n)(h3:l3<n)(Z:wG s.heap n l1 l2 l3 k (rawInt (T:Nat)) f1 a b c)(j:s.heap.get? T=some ot)
  (d:s.heap.IsList l1 xs) (r:xs[k]?=none)
  (p:∀h' e,(∀c o,c∉z3 n->s.heap.get? c=some o->h'.get? c=some o)->(∃o,h'.get? e=some o/\o.cls=.type "StopIteration")->E (.ref e) {s with heap:=h'}):
  wpAny (model prog w) A (Builtin.«zip.__next__» ⟨[.ref (n+5:Nat)],[]⟩) Q E s:=by
 show wpAny _ _ (field (.ref _) 2 >>= _) _ _ _;refine zX1 (z79 Z.z rfl (x:=.bool false) rfl ?_);show wpAny _ _ (field (.ref _) 3 >>= _) _ _ _;refine zX1 (z79 Z.z rfl (x:=.ref (n+3:Nat)) rfl ?_);refine zX1 (z45 Z.ti rfl ?_);show wpAny _ _ (Builtin.SmallTypes.ownedTupleIsFree (.ref (n+5:Nat)) >>= _) _ _ _;refine zX1 (qF h1 h2 h3 Z j λm u ZB l i=>?_)
 replace d:m.IsList l1 xs:=d.at λo e=>i _ o (by refine zp _ _ ?_;exact .inl (zX4 h1 (zY8 _ _))) e
 simp only[z25,z65];rw[yg6];simp only[yf5,List.forIn_nil];refine zX1 (zX1 (zX1 (z43 ?_)));show wpAny _ _ (Builtin.SmallTypes.nextOf (.ref (n:Nat)) >>= _) _ _ _;refine zX1 (wpAny_nextOf_list_end t ZB.i1 d r λg e f he=>?_);refine p g e (λc o h q=>?_) he;simp only[z3,zX6,zZ1,z08,not_or]at h;exact f _ _ h.1 (i _ _ h.2.2.2.2.2 q)
theorem oH {n l1 l2 l3 k:Nat}{f1 a b c x y z:Value}{xs ys zs:Array Value}{Q:Option Value->Shared->Prop}(h1:l1<n)(h2:l2<n)(h3:l3<n)(Z:wG s.heap n l1 l2 l3 k .none f1 a b c)
  (f:s.heap.IsList l1 xs) (e:s.heap.IsList l2 ys) (d:s.heap.IsList l3 zs) (h:xs[k]?=some x) (hy:ys[k]?=some y) (hz:zs[k]?=some z)
  (i:∀h',wG h' n l1 l2 l3 (k+1) (rawInt s.heap.objs.size) (.bool false) x y z->h'.get? s.heap.objs.size=some (tO3 x y z)->
   (∀c o,c∉z3 n->s.heap.get? c=some o->h'.get? c=some o)->Q (some (.ref s.heap.objs.size)) {s with heap:=h'}):
  wpAny (model prog w) A (pyNext (.ref (n+5:Nat))) Q E s:=by
 have g:s.TypeIs (.ref (n+5:Nat)) "zip":=⟨_,Z.z,rfl⟩;unfold pyNext;exact zX1 (wpAny_attempt (yd7 (name:=Str.ofString "__next__") g z56
  (ye4 z56 g ye1
   (mI h1 h2 h3 Z f e d h hy hz λh' a1 a2 j=>zY6 (i h' a1 a2 j)) (yd8 _))))
theorem mQ {n l1 l2 l3 k T:Nat}{f1 a b c x y z:Value}{ot:Obj}{xs ys zs:Array Value}{Q:Option Value->Shared->Prop}(h1:l1<n)(h2:l2<n)(h3:l3<n)(Z:wG s.heap n l1 l2 l3 k (rawInt (T:Nat)) f1 a b c)(i:s.heap.get? T=some ot)
  (g:s.heap.IsList l1 xs) (h:s.heap.IsList l2 ys) (f:s.heap.IsList l3 zs) (j:xs[k]?=some x) (hy:ys[k]?=some y) (hz:zs[k]?=some z)
  (l:∀h' d,wG h' n l1 l2 l3 (k+1) (rawInt (T:Nat)) d a b c->h'.get? s.heap.objs.size=some (tO3 x y z)->
   (∀c o,c∉z3 n->s.heap.get? c=some o->h'.get? c=some o)->Q (some (.ref s.heap.objs.size)) {s with heap:=h'}):
  wpAny (model prog w) A (pyNext (.ref (n+5:Nat))) Q E s:=by
 have e:s.TypeIs (.ref (n+5:Nat)) "zip":=⟨_,Z.z,rfl⟩;unfold pyNext;exact zX1 (wpAny_attempt (yd7 (name:=Str.ofString "__next__") e z56
  (ye4 z56 e ye1
   (iF h1 h2 h3 Z i g h f j hy hz λh' d a1 a2 m=>zY6 (l h' d a1 a2 m)) (yd8 _))))
theorem fA {n l1 l2 l3 k T:Nat}{f1 a b c:Value}{ot:Obj}{xs:Array Value}{Q:Option Value->Shared->Prop}(h:A.handled=none)(h1:l1<n)(h2:l2<n)(h3:l3<n)(Z:wG s.heap n l1 l2 l3 k (rawInt (T:Nat)) f1 a b c)(i:s.heap.get? T=some ot)
  (f:s.heap.IsList l1 xs) (g:xs[k]?=none)
  (j:∀h',(∀c o,c∉z3 n->s.heap.get? c=some o->h'.get? c=some o)->Q none {s with heap:=h'}):
  wpAny (model prog w) A (pyNext (.ref (n+5:Nat))) Q E s:=by
 have d:s.TypeIs (.ref (n+5:Nat)) "zip":=⟨_,Z.z,rfl⟩;unfold pyNext;refine zX1 (wpAny_attempt (yd7 (name:=Str.ofString "__next__") d z56
  (ye4 z56 d ye1 (zc6 h h1 h2 h3 Z i f g λh' e hk he=>?_) (yd8 _))))
 obtain⟨o,m,l⟩:=he;refine zX1 (wpAny_isInstance (T:="StopIteration") (b:=true) ⟨o,m,l⟩ isSubtype_stop ?_);exact zY6 (j _ hk)
end
section
variable {X:Cx}{pins:List (Addr×Obj)}{σ:St}{H:Hp}{s:Shared}
def Tri (H0 H:Hp)(xs ys zs vs:List V)(i:Nat):Prop:=vs.length=i/\∀j,j<i->∃t x y z,vs[j]?=some (.ref t)/\xs[j]?=some x/\ys[j]?=some y/\zs[j]?=some z/\H t=some (.tup [x,y,z])/\H0 t=none
structure ZAt (X:Cx)(pins:List (Addr×Obj))(σ:St)(H:Hp)(n l1 l2 l3:Nat)(S:Addr)(xs ys zs:List V)(i:Nat)(s':Shared):Prop where
 ex:∃(H':Hp) (acc:List Value) (vs:List V) (e:Nat) (f0 f1 a b c:Value),Inv X pins σ H' s'/\(∀a o,H a=some o->H' a=some o)/\s'.heap.get? S=some {cls:=.type "list",dict:=none,data:=.seq acc.toArray e,slots:=#[]}/\H' S=none/\(∀b∈z3 n,H' b=none)/\
  wG s'.heap n l1 l2 l3 i f0 f1 a b c/\(i=0/\f0=.none\/∃(T:Nat) (ot:Obj),f0=rawInt (T:Nat)/\s'.heap.get? T=some ot/\T∉S::z3 n)/\Vals vs acc/\Tri H H' xs ys zs vs i
structure zz6 (X:Cx)(pins:List (Addr×Obj))(σ:St)(H:Hp)(S:Addr)(xs ys zs:List V)(s':Shared):Prop where
 ex:∃(H':Hp) (acc:List Value) (vs:List V) (e:Nat),Inv X pins σ H' s'/\(∀a o,H a=some o->H' a=some o)/\s'.heap.get? S=some {cls:=.type "list",dict:=none,data:=.seq acc.toArray e,slots:=#[]}/\H' S=none/\Vals vs acc/\Tri H H' xs ys zs vs xs.length
theorem Tri.snoc {H0 H H':Hp}{xs ys zs vs:List V}{i:Nat}{t:Addr}{x y z:V}(h:Tri H0 H xs ys zs vs i)(k:∀a o,H a=some o->H' a=some o)(f:xs[i]?=some x)(hy:ys[i]?=some y)(hz:zs[i]?=some z)(r:H' t=some (.tup [x,y,z]))(hn:H0 t=none):Tri H0 H' xs ys zs (vs++[.ref t]) (i+1):=by
 refine⟨by rw[zZ9,h.1];rfl,λj l=>?_⟩;rcases z91 j i with b|b
 ·obtain⟨t',c,g,e,e1,n,q,m,d,p⟩:=h.2 j b;exact⟨t',c,g,e,by rw[z53 (by rw[h.1];exact b)];exact e1,n,q,m,k _ _ d,p⟩
 ·have:j=i:=(z69 (z61 l) b);subst this;exact⟨t,x,y,z,by rw[z86 (by rw[h.1];exact zX7 _),h.1];simp,f,hy,hz,r,hn⟩
theorem iL {A:Around}{R:Result->Shared->Prop}{n l1 l2 l3:Nat}{S:Addr}{xs ys zs:List V}(hh:A.handled=none)(h1:l1<n)(h2:l2<n)(h3:l3<n)(fS:∀H',H' S=none->yZ X pins H' S)(fz:∀b∈z3 n,∀H',H' b=none->yZ X pins H' b)(l:S∉z3 n)
  (W:SqL X.K H l1 xs) (q2:SqL X.K H l2 ys) (q3:SqL X.K H l3 zs) (e2:ys.length=xs.length) (e3:zs.length=xs.length) (h0:0<xs.length) (hN:xs.length<=1000)
  (hR:∀s',zz6 X pins σ H S xs ys zs s'->R (.ok (.ret .none)) s'):
  ∀(k i:Nat) (s:Shared),xs.length-i=k->i<=xs.length->ZAt X pins σ H n l1 l2 l3 S xs ys zs i s->codeAny (model X.prog X.w) A (.builtin "list.extend.loop" ⟨[.ref S,.ref (n+5:Nat),.none],[]⟩) R s:=by
 have a2:A.in1.handled=none:=hh;intro k
 induction k with
 |zero=>
  intro i s hk hi y;have a7:i=xs.length:=(zr4 hk hi);subst a7;obtain⟨H',acc,vs,e,f0,f1,a,b,c,I,st,G,nS,U,Z,fr,Q,tr⟩:=y.ex;refine yc5 PySem.F.entry_extend_loop ?_;rw[z90 z55 _];show wpAny _ A.in1 (pyNext (.ref (n+5:Nat)) >>= _) _ _ s;rcases fr with⟨z,_⟩|⟨T,ot,rfl,C,d⟩
  ·exact(z26 _ (zX4 h0 (zZ3 z))).elim
  obtain⟨E,B,p1,a5⟩:=I.list (wy W λa o _ e=>st a o e);refine zX1 (fA a2 h1 h2 h3 Z C p1.isList (by rw[List.getElem?_toArray,z85];rw[B.length];exact zX7 _) λh' h=>?_);refine zY6 (hR _ ⟨H',acc,vs,e,I.turnL (t':=s.toks) (ch:=z3 n) (λb o hb q=>h b o hb q) (λb hb=>fz b hb H' (U b hb)),st,h _ _ l G,nS,Q,tr⟩)
 |succ k ih=>
  intro i s hk hi y;have p:i<xs.length:=(zv6 hk);obtain⟨H',acc,vs,e,f0,f1,a,b,c,I,st,G,nS,U,Z,fr,Q,tr⟩:=y.ex;refine yc5 PySem.F.entry_extend_loop ?_;rw[z90 z55 _];show wpAny _ A.in1 (pyNext (.ref (n+5:Nat)) >>= _) _ _ s;obtain⟨E,B,p1,a5⟩:=I.list (wy W λa o _ e=>st a o e);obtain⟨a9,a0,p2,b1⟩:=I.list (wy q2 λa o _ e=>st a o e);obtain⟨b0,a8,p3,b2⟩:=I.list (wy q3 λa o _ e=>st a o e);have gx:xs[i]?=some xs[i]:=zX3 p;have gy:ys[i]?=some ys[i]:=zX3 (zX4 p (zZ3 e2.symm));have gz:zs[i]?=some zs[i]:=zX3 (zX4 p (zZ3 e3.symm));obtain⟨u,hu,ru⟩:=B.get gx;obtain⟨v,hv,a3⟩:=a0.get gy;obtain⟨w,hw,a6⟩:=a8.get gz;have t:acc.length=i:=by rw[<-Q.length,tr.1]
  have O:∀b∈z3 n,b<s.heap.objs.size:=λb hb=>by
   have:∃o,s.heap.get? b=some o:=by
    simp only[z3,zX6,zZ1,z08]at hb;obtain⟨o1,W,_⟩:=Z.i1;obtain⟨o2,q2,_⟩:=Z.i2;obtain⟨o3,q3,_⟩:=Z.i3;rcases hb with rfl|rfl|rfl|rfl|rfl|rfl
    ·exact⟨_,W⟩
    ·exact⟨_,q2⟩
    ·exact⟨_,q3⟩
    ·exact⟨_,Z.ti⟩
    ·exact⟨_,Z.to⟩
    ·exact⟨_,Z.z⟩
   obtain⟨o,q⟩:=this;exact zY4 q
  have main:∀(h':Heap) (m r a' b' c':Value),wG h' n l1 l2 l3 (i+1) m r a' b' c'->(∃(T:Nat) (ot:Obj),m=rawInt (T:Nat)/\h'.get? T=some ot/\T∉S::z3 n)->h'.get? s.heap.objs.size=some (tO3 u v w)->
    (∀c o,c∉z3 n->s.heap.get? c=some o->h'.get? c=some o)->wpAny (model X.prog X.w) A.in1 (updateSeq S (·.push (.ref s.heap.objs.size)) >>= λ_=>again (.builtin "list.extend.loop" ⟨[.ref S,.ref (n+5:Nat),.none],[]⟩))
     (λfin s'=>match fin with|.done f=>R (.ok f) s'|.again c'=>c'.quiet=true/\codeAny (model X.prog X.w) A c' R s') (λe s'=>R (.error e) s') {s with heap:=h'}:=by
   intro h' m r a' b' c' j ⟨T,ot,hf,C,d⟩ D h;have nT:H' s.heap.objs.size=none:=I.hok.fresh (zX7 _);have a1:H s.heap.objs.size=none:=by
    cases q:H s.heap.objs.size with
    |none=>rfl
    |some o=>rw[st _ _ q]at nT;cases nT
   have N:∀a o,H' a=some o->upd H' s.heap.objs.size (.tup [xs[i],ys[i],zs[i]]) a=some o:=λa o q=>by rw[zb (zj q nT)];exact q
   have J:=I.turnLay (t':=s.toks) (h':=h') (ch:=z3 n) (T:=s.heap.objs.size) (o:=.tup [xs[i],ys[i],zs[i]]) h (λb hb=>fz b hb H' (U b hb)) (zX7 _) ⟨by show 3<=sizeLine;decide,[u,v,w],.cons ru (.cons a3 (.cons a6 .nil)),_,D,rfl,0,rfl⟩;have L:=h _ _ l G;have P:S<s.heap.objs.size:=zY4 G;have M:upd H' s.heap.objs.size (.tup [xs[i],ys[i],zs[i]]) S=none:=by rw[zb (zZ6 P)];exact nS
   obtain⟨Y,a4⟩:∃Y,(h'.update S (Obj.mapSeq (·.push (Value.ref s.heap.objs.size)))).get? S=some {cls:=.type "list",dict:=none,data:=.seq (acc++[Value.ref s.heap.objs.size]).toArray Y,slots:=#[]}:=by
    have:=z70 (c:="list") L λx=>x.push (Value.ref s.heap.objs.size);rw[List.push_toArray]at this;exact⟨_,this⟩
   refine zX1 ?_;refine z62 L rfl (zY6 ⟨z88 z55 _,ih (i+1) _ (cF hk) p ⟨_,acc++[.ref s.heap.objs.size],vs++[.ref s.heap.objs.size],Y,m,r,a',b',c',
    J.turnL (t':=s.toks) (ch:=[S]) (λb o hb q=>(z01 _ _ (z09 (by simpa using hb))).trans q) (λb hb=>by rw[zY0.mp hb];exact fS _ M),λa o q=>N _ _ (st a o q),a4,M,λb hb=>?_,?_,.inr ⟨T,ot,hf,?_,d⟩,Q.append (.cons (show RelV (.ref s.heap.objs.size) (.ref s.heap.objs.size)from rfl) .nil),tr.snoc N gx gy gz zi a1⟩⟩)
    (by rw[zZ0,t,z41];lia) (by show(acc.toArray.push _).size<=sizeLine+1;rw[Array.size_push,zZ0,t,z41];lia)
   ·rw[zb]
    ·exact U b hb
    ·exact zZ6 (O b hb)
   ·have g:∀b o,b≠S->h'.get? b=some o->(h'.update S (Obj.mapSeq (·.push (Value.ref s.heap.objs.size)))).get? b=some o:=λb o hb q=>(z01 _ _ (z09 hb)).trans q;simp only[z3,zX6,zZ1,z08,not_or]at l;obtain⟨d1,d2,d3,d4,d5,d6⟩:=l;exact⟨g _ _ (z09 d6) j.z,g _ _ (z09 d4) j.ti,g _ _ (z09 d5) j.to,j.i1.at λo q=>g _ o (z09 d1) q,j.i2.at λo q=>g _ o (z09 d2) q,j.i3.at λo q=>g _ o (z09 d3) q⟩
   ·exact(z01 _ _ (λz=>d (by rw[<-z];exact zX9))).trans C
  rcases fr with⟨_,rfl⟩|⟨T,ot,rfl,C,d⟩
  ·refine zX1 (oH h1 h2 h3 Z p1.isList p2.isList p3.isList (by simpa using hu) (by simpa using hv) (by simpa using hw) λh' j D h=>?_);refine main h' _ _ _ _ _ j ⟨s.heap.objs.size,_,rfl,D,?_⟩ D h;intro z;rcases zX6.mp z with z|z
   ·exact absurd (zY4 G) (by rw[<-z];exact z26 _)
   ·exact absurd (O _ z) (z26 _)
  ·refine zX1 (mQ h1 h2 h3 Z C p1.isList p2.isList p3.isList (by simpa using hu) (by simpa using hv) (by simpa using hw) λh' r j D h=>?_);exact main h' _ _ _ _ _ j ⟨T,ot,rfl,h _ _ (λz=>d (zX8 _ z)) C,d⟩ D h
end
theorem tZ (a b c:Value):checkTypeCall "zip" ⟨[a,b,c],[]⟩=pure ():=by kernel_rfl
theorem qc (a b c:Value):checkBuiltinCall "zip.__new__" ⟨[.type "zip",a,b,c],[]⟩=pure ():=by kernel_rfl
theorem vB (a b c d:Value):argsOk "object.__init__" ⟨[a,b,c,d],[]⟩:=by unfold argsOk;rw[signature?_of (id:="object.__init__") (n:=['_','_','t','i','n','i','_','_']) (o:=['t','c','e','j','b','o']) (by kernel_rfl) PySem.F.owner_object];kernel_rfl
theorem mO :typeLookup (.type "zip") "__len__"=pure none:=by rw[yf8,ya6];kernel_rfl
theorem oY :typeLookup (.type "zip") "__length_hint__"=pure none:=by rw[yf8,ya6];kernel_rfl
abbrev itO (l:Addr):Obj:={cls:=.type "list_iterator",data:=.fields #[.ref l,.int 0 0]}
abbrev zh3 (h:Heap)(l1 l2 l3:Addr):Heap:=((h.push (itO l1)).push (itO l2)).push (itO l3)
abbrev zh4 (h:Heap)(l1 l2 l3:Addr):Heap:=(zh3 h l1 l2 l3).push (tO3 (.ref h.objs.size) (.ref (h.push (itO l1)).objs.size) (.ref ((h.push (itO l1)).push (itO l2)).objs.size))
abbrev zh5 (h:Heap)(l1 l2 l3:Addr):Heap:=(zh4 h l1 l2 l3).push (tO3 .none .none .none)
abbrev zh6 (h:Heap)(l1 l2 l3:Addr):Heap:=(zh5 h l1 l2 l3).push (zO .none (.bool false) (zh3 h l1 l2 l3).objs.size (zh4 h l1 l2 l3).objs.size)
theorem sF (l1 l2 l3:Addr)(xs ys zs:Array Value):
  Meets (Builtin.«zip.__new__» ⟨[.type "zip",.ref l1,.ref l2,.ref l3],[]⟩) (λ_ R s=>s.heap.IsList l1 xs/\s.heap.IsList l2 ys/\s.heap.IsList l3 zs/\
   R (.ok (.ret (.ref (zh5 s.heap l1 l2 l3).objs.size))) {s with heap:=zh6 s.heap l1 l2 l3}):=
 .of_wp λprog w A R s h=>by
  obtain⟨f,g,d,tk,os⟩:=s;obtain⟨i,e,a,h⟩:=h;have k:=sub_zip;have c:Heap.IsList (Shared.heap ⟨f,g,d,tk,os⟩) l1 xs:=i;have b:Heap.IsList (Shared.heap ⟨f.push {cls:=.type "list_iterator",data:=.fields #[.ref l1,.int 0 0]},g,d,tk,os⟩) l2 ys:=Heap.IsList.push e _;have j:Heap.IsList (Shared.heap ⟨(f.push {cls:=.type "list_iterator",data:=.fields #[.ref l1,.int 0 0]}).push {cls:=.type "list_iterator",data:=.fields #[.ref l2,.int 0 0]},g,d,tk,os⟩) l3 zs:=Heap.IsList.push (Heap.IsList.push a _) _
  wp_walk using z60 c,z60 b,z60 j
  exact⟨_,rfl,h⟩
section
variable {prog:Program}{w:World}{A:Around}{E:Value->Shared->Prop}{s:Shared}
theorem lY {l1 l2 l3:Addr}{xs ys zs:Array Value}{Q:Value->Shared->Prop}(i:s.heap.IsList l1 xs)(f:s.heap.IsList l2 ys)(d:s.heap.IsList l3 zs)
  (h:∀h',wG h' s.heap.objs.size l1 l2 l3 0 .none (.bool false) .none .none .none->h'.objs.size=s.heap.objs.size+6->(∀c o,s.heap.get? c=some o->h'.get? c=some o)->Q (.ref (s.heap.objs.size+5)) {s with heap:=h'}):
  wpAny (model prog w) A (call (.type "zip") [.ref l1,.ref l2,.ref l3]) Q E s:=by
 refine callType_new PySem.F.called_zip (by decide) (tZ _ _ _) (qc _ _ _) (λobj=>vB obj _ _ _) PySem.F.entry_zip_new
  (sF l1 l2 l3 xs ys zs) ⟨i,f,d,?_⟩
 have k:(s.heap.push (itO l1)).objs.size=s.heap.objs.size+1:=z44 ..;have g:((s.heap.push (itO l1)).push (itO l2)).objs.size=s.heap.objs.size+2:=by rw[z44,k]
 have a:(zh3 s.heap l1 l2 l3).objs.size=s.heap.objs.size+3:=by rw[z44,g]
 have j:(zh4 s.heap l1 l2 l3).objs.size=s.heap.objs.size+4:=by rw[z44,a]
 have b:(zh5 s.heap l1 l2 l3).objs.size=s.heap.objs.size+5:=by rw[z44,j]
 have n:(zh6 s.heap l1 l2 l3).objs.size=s.heap.objs.size+6:=by rw[z44,b]
 have e:(zh6 s.heap l1 l2 l3).get? (zh5 s.heap l1 l2 l3).objs.size=some _:=zY5 _ rfl;have m:(zh6 s.heap l1 l2 l3).get? (zh4 s.heap l1 l2 l3).objs.size=some _:=zX2 _ (zY5 _ rfl);have l:(zh6 s.heap l1 l2 l3).get? (zh3 s.heap l1 l2 l3).objs.size=some _:=zX2 _ (zX2 _ (zY5 _ rfl));have g3:(zh6 s.heap l1 l2 l3).get? ((s.heap.push (itO l1)).push (itO l2)).objs.size=some _:=zX2 _ (zX2 _ (zX2 _ (zY5 _ rfl)));have g2:(zh6 s.heap l1 l2 l3).get? (s.heap.push (itO l1)).objs.size=some _:=zX2 _ (zX2 _ (zX2 _ (zX2 _ (zY5 _ rfl))));have g1:(zh6 s.heap l1 l2 l3).get? s.heap.objs.size=some _:=zX2 _ (zX2 _ (zX2 _ (zX2 _ (zX2 _ (zY5 _ rfl)))));show _/\_;rw[b,j,a]at e;rw[j]at m;rw[a,g,k]at l;rw[g]at g3;rw[k]at g2;rw[b];exact⟨⟨_,e,rfl⟩,h _ ⟨e,l,m,⟨_,g1,rfl,rfl⟩,⟨_,g2,rfl,rfl⟩,⟨_,g3,rfl,rfl⟩⟩ n λc o x=>
  zX2 _ (zX2 _ (zX2 _ (zX2 _ (zX2 _ (zX2 _ x)))))⟩
end
section
variable {X:Cx}{pins:List (Addr×Obj)}{σ:St}{H:Hp}{s:Shared}
theorem gO {A:Around}{R:Result->Shared->Prop}{n l1 l2 l3:Nat}{S:Addr}{xs ys zs:List V}(hh:A.handled=none)(h1:l1<n)(h2:l2<n)(h3:l3<n)(I:Inv X pins σ H s)(Z:wG s.heap n l1 l2 l3 0 .none (.bool false) .none .none .none)(v:s.heap.get? S=some {cls:=.type "list",data:=.seq #[]})
  (y:H S=none) (nz:∀b∈z3 n,H b=none) (B:∀H',H' S=none->yZ X pins H' S) (fz:∀b∈z3 n,∀H',H' b=none->yZ X pins H' b) (t:S∉z3 n)
  (T:SqL X.K H l1 xs) (Y:SqL X.K H l2 ys) (U:SqL X.K H l3 zs) (e2:ys.length=xs.length) (e3:zs.length=xs.length) (h0:0<xs.length) (W:xs.length<=1000)
  (P:∀s',zz6 X pins σ H S xs ys zs s'->R (.ok (.ret .none)) s'):
  wpAny (model X.prog X.w) A.in1 (Builtin.«list.__init__» ⟨[.ref S,.ref (n+5:Nat)],[]⟩)
   (λfin s'=>match fin with|.done f=>R (.ok f) s'|.again c'=>c'.quiet=true/\codeAny (model X.prog X.w) A c' R s') (λe s'=>R (.error e) s') s:=by
 have k:=t;simp only[z3,zX6,zZ1,z08,not_or]at k;obtain⟨E,G,D,L,J,u⟩:=k;show wpAny _ _ (do let old <-Builtin.List.listItems (.ref S);Builtin.List.listUpdate (.ref S) (λ_=>#[]);letGo old.toList.reverse;Builtin.List.listExtendWith (.ref S) (.ref (n+5:Nat)) .none) _ _ s;refine zX1 ?_;unfold Builtin.List.listItems;refine zX1 (z45 v rfl (zY6 ?_));show wpAny _ _ (updateSeq S (λ_=>#[]) >>= λ_=>letGo (#[]:Array Value).toList.reverse >>= λ_=>Builtin.List.listExtendWith (.ref S) (.ref (n+5:Nat)) .none) _ _ s;refine zX1 (z62 v rfl ?_);obtain⟨m,g⟩:∃m,(s.heap.update S (Obj.mapSeq (λ_=>(#[]:Array Value)))).get? S=some {cls:=.type "list",dict:=none,data:=.seq #[] m,slots:=#[]}:=⟨_,z70 (c:="list") v λ_=>#[]⟩;have d:∀b o,b≠S->s.heap.get? b=some o->(s.heap.update S (Obj.mapSeq (λ_=>(#[]:Array Value)))).get? b=some o:=
  λb o hb e=>(z01 _ _ (z09 hb)).trans e
 have r:wG (s.heap.update S (Obj.mapSeq (λ_=>(#[]:Array Value)))) n l1 l2 l3 0 .none (.bool false) .none .none .none:=⟨d _ _ (z09 u) Z.z,d _ _ (z09 L) Z.ti,d _ _ (z09 J) Z.to,Z.i1.at λo q=>d _ o (z09 E) q,Z.i2.at λo q=>d _ o (z09 G) q,Z.i3.at λo q=>d _ o (z09 D) q⟩;refine zX1 (z78 ?_);have M:Inv X pins σ H {s with heap:=s.heap.update S (Obj.mapSeq (λ_=>(#[]:Array Value))),toks:=s.toks}:=I.turnL (ch:=[S]) (λb o hb q=>d b o (by simpa using hb) q) λb hb=>by rw[zY0.mp hb];exact B H y
 have p:({s with heap:=s.heap.update S (Obj.mapSeq (λ_=>(#[]:Array Value)))}:Shared).TypeIs (.ref (n+5:Nat)) "zip":=⟨_,r.z,rfl⟩;unfold Builtin.List.listExtendWith;refine zX1 (wpAny_typeOf p ?_);have N:Builtin.List.listSameRef (.ref S) (.ref (n+5:Nat))=false:=by simp[Builtin.List.listSameRef];exact u
 have b2:(Value.type "zip" == Value.type "list")=false:=by decide
 have b3:(Value.type "zip" == Value.type "tuple")=false:=by decide
 simp only[N,b2,b3,yb4,z25,z65];refine zX1 (wpAny_pyIter_slot p PySem.F.slot_zip_iter (ye4 PySem.F.slot_zip_iter p PySem.F.entry_zip_iter ?_ (PySem.F.args_zip_iter_1 _)));show wpAny _ _ (ret (.ref (n+5:Nat))) _ _ _;refine zY6 ⟨_,rfl,"zip",_,p,z56.lookup,?_⟩;refine zX1 (z43 ?_);unfold Builtin.List.listLengthHint;refine zX1 (yc4 p mO ?_);show wpAny _ _ (specialOf (Value.ref (n+5:Nat)) (Str.ofString "__length_hint__") >>= _) _ _ _;refine zX1 (yc4 p oY ?_);refine zY6 ?_;have key:∀(h:Heap) (e:Nat),h.get? S=some {cls:=.type "list",dict:=none,data:=.seq #[] e,slots:=#[]}->(∀b o,b≠S->s.heap.get? b=some o->h.get? b=some o)->codeAny (model X.prog X.w) A (.builtin "list.extend.loop" ⟨[.ref S,.ref (n+5:Nat),.none],[]⟩) R {s with heap:=h}:=by
  intro h e C a;refine iL hh h1 h2 h3 B fz t T Y U e2 e3 h0 W P xs.length 0 _ (by lia) (zY9 _) ⟨H,[],[],e,.none,.bool false,.none,.none,.none,I.turnL (t':=s.toks) (ch:=[S]) (λb o hb q=>a b o (by simpa using hb) q) (λb hb=>by rw[zY0.mp hb];exact B H y),λ_ _ e=>e,C,y,nz,?_,.inl ⟨rfl,rfl⟩,.nil,rfl,λj O=>absurd O (Nat.not_lt_zero _)⟩;exact⟨a _ _ (z09 u) Z.z,a _ _ (z09 L) Z.ti,a _ _ (z09 J) Z.to,Z.i1.at λo q=>a _ o (z09 E) q,Z.i2.at λo q=>a _ o (z09 G) q,Z.i3.at λo q=>a _ o (z09 D) q⟩
 refine z94 (λ_=>?_) (λ_=>zY6 ⟨z88 z55 _,key _ _ g d⟩);refine zX1 (wpAny_rule ?_);refine zX1 ?_;show wpAny _ _ (updateSeq S (·.push .none) >>= λ_=>updateSeq S (·.pop)) _ _ _;refine zX1 (z62 g rfl ?_);obtain⟨a0,i⟩:∃m,((s.heap.update S (Obj.mapSeq (λ_=>(#[]:Array Value)))).update S (Obj.mapSeq (·.push Value.none))).get? S=some {cls:=.type "list",dict:=none,data:=.seq #[.none] m,slots:=#[]}:=⟨_,z70 (c:="list") g λx=>x.push Value.none⟩;refine z62 (hz:=by seq_fits) i rfl ?_;obtain⟨Q,l⟩:∃m,(((s.heap.update S (Obj.mapSeq (λ_=>(#[]:Array Value)))).update S (Obj.mapSeq (·.push Value.none))).update S (Obj.mapSeq (·.pop))).get? S=some {cls:=.type "list",dict:=none,data:=.seq #[] m,slots:=#[]}:=⟨_,z70 (c:="list") i λx=>x.pop⟩;refine zY6 ⟨z88 z55 _,key _ _ l λb o hb e=>?_⟩;exact(z01 _ _ (z09 hb)).trans ((z01 _ _ (z09 hb)).trans (d b o hb e))
end
section
variable {X:Cx}{pins:List (Addr×Obj)}{σ:St}{H:Hp}{s:Shared}
theorem rS {A:Around}{E:Value->Shared->Prop}{Q:Value->Shared->Prop}{n l1 l2 l3:Nat}{xs ys zs:List V}(r:A.handled=none)(h1:l1<n)(h2:l2<n)(h3:l3<n)(I:Inv X pins σ H s)(Z:wG s.heap n l1 l2 l3 0 .none (.bool false) .none .none .none)
  (l:∀b∈z3 n,H b=none) (fz:∀b∈z3 n,∀H',H' b=none->yZ X pins H' b)
  (d:SqL X.K H l1 xs) (i:SqL X.K H l2 ys) (g:SqL X.K H l3 zs) (t:ys.length=xs.length) (p:zs.length=xs.length) (h0:0<xs.length) (m:xs.length<=1000)
  (u:∀D s',s.heap.objs.size<=D->zz6 X pins σ H D xs ys zs s'->(∀H',H' D=none->yZ X pins H' D)->Q (.ref D) s'):
  wpAny (model X.prog X.w) A (call (.type "list") [.ref (n+5:Nat)]) Q E s:=by
 refine callType_codes (Q₁:=λobj a=>obj=.ref s.heap.objs.size/\a={s with heap:=s.heap.push {cls:=.type "list",data:=.seq #[]}}) PySem.F.called_list (PySem.F.typeCall_list_1 _) PySem.F.entry_list_init
  (code_list_new _ ⟨rfl,rfl⟩) λobj a c=>?_
 obtain⟨rfl,rfl⟩:=c;have j:(s.heap.push {cls:=.type "list",data:=.seq #[]}).get? s.heap.objs.size=some {cls:=.type "list",data:=.seq #[]}:=zY5 _ rfl;have up:∀b o,s.heap.get? b=some o->(s.heap.push {cls:=.type "list",data:=.seq #[]}).get? b=some o:=λb o e=>zX2 _ e;have k:∀H':Hp,H' s.heap.objs.size=none->yZ X pins H' s.heap.objs.size:=λH' h=>I.fpOk (zX7 _) h;have f:s.heap.objs.size∉z3 n:=λhb=>by
  have:∃o,s.heap.get? s.heap.objs.size=some o:=by
   simp only[z3,zX6,zZ1,z08]at hb;obtain⟨y,d,_⟩:=Z.i1;obtain⟨x,i,_⟩:=Z.i2;obtain⟨B,g,_⟩:=Z.i3;rcases hb with z|z|z|z|z|z<;>rw[z]
   ·exact⟨_,d⟩
   ·exact⟨_,i⟩
   ·exact⟨_,g⟩
   ·exact⟨_,Z.ti⟩
   ·exact⟨_,Z.to⟩
   ·exact⟨_,Z.z⟩
  obtain⟨o,q⟩:=this;exact absurd (zY4 q) (z26 _)
 refine⟨⟨_,j,rfl⟩,PySem.F.args_list_init_2 _ _,gO (A:=A.in1) r h1 h2 h3 (I.kept (t':=s.toks) up) ⟨up _ _ Z.z,up _ _ Z.ti,up _ _ Z.to,Z.i1.at λo q=>up _ o q,Z.i2.at λo q=>up _ o q,Z.i3.at λo q=>up _ o q⟩ j (I.hok.fresh (zX7 _)) l k fz f d i g t p h0 m λs' v=>⟨rfl,u _ s' (zX7 _) v k⟩⟩
variable {a b c:Expr}{p p0 pos pos2:Pos}
theorem nL {R:TA}(hc:X.calm=true)(hgl:Gl X "list")(C:X.mg "list"=none)(hg:Gl X "zip")(hm:X.mg "zip"=none)(ha:PA X [a,b,c] R)
  (k:starEach [.Call (.Name "zip" p) [a,b,c] [] pos2] X.env=[(false,eval (.Call (.Name "zip" p) [a,b,c] [] pos2) X.env)]:=by rfl)
  (hs:starEach [a,b,c] X.env=(false,eval a X.env)::starEach [b,c] X.env:=by rfl) (hpl:(backTo pos2 (starEach [b,c] X.env)).any (·.1)=false:=by rfl):
  PE X (.Call (.Name "list" p0) [.Call (.Name "zip" p) [a,b,c] [] pos2] [] pos) (λσ H Q=>R σ H λvs H1=>∃(l1 l2 l3:Addr) (xs ys zs:List V),vs=[.ref l1,.ref l2,.ref l3]/\SqL X.K H1 l1 xs/\SqL X.K H1 l2 ys/\SqL X.K H1 l3 zs/\ys.length=xs.length/\zs.length=xs.length/\0<xs.length/\xs.length<=1000/\
   ∀D H' vs,H1 D=none->(∀a o,H1 a=some o->H' a=some o)->H' D=some (.lst vs)->(∃r,(∀a o,r a=some o->a≠D/\H' a=some o)/\Tri H1 r xs ys zs vs xs.length)->Q (.ref D) H'):=by
 intro pins s σ H Q I h;refine Call_ (yO I hgl C boot_list (z21 ?_ k rfl));rw[k];show wpAny _ _ (spliced ((false,eval _ X.env)::backTo pos [])) _ _ s;refine Calls.spliced_cons ?_;refine Call_ (yO I hg hm boot_zip (z21 (thn (ha pos2 pins s σ H _ I h) λus s1 B=>?_) hs hpl));obtain⟨vs,H1,f,d,q1⟩:=B;obtain⟨l1,l2,l3,xs,ys,zs,e,i,g,m,e2,e3,h0,M,q⟩:=q1;subst e;obtain⟨u,v,w,rfl,T,W,F⟩:∃u v w,us=[u,v,w]/\RelV (.ref l1) u/\RelV (.ref l2) v/\RelV (.ref l3) w:=by
  cases d with
  |cons a d=>
   cases d with
   |cons b d=>
    cases d with
    |cons c d=>
     cases d;exact⟨_,_,_,rfl,a,b,c⟩
 cases(show u=Value.ref l1 from T);cases(show v=Value.ref l2 from W);cases(show w=Value.ref l3 from F);obtain⟨L,a1,p1,a2⟩:=f.list i;obtain⟨O,U,p2,a0⟩:=f.list g;obtain⟨P,a4,p3,a3⟩:=f.list m;refine lY p1.isList p2.isList p3.isList λh' Z sz hk=>?_;have E:l1<s1.heap.objs.size:=by obtain⟨o,e,_⟩:=p1.isList;exact zY4 e
 have x:l2<s1.heap.objs.size:=by obtain⟨o,e,_⟩:=p2.isList;exact zY4 e
 have G:l3<s1.heap.objs.size:=by obtain⟨o,e,_⟩:=p3.isList;exact zY4 e
 have le:∀b∈z3 s1.heap.objs.size,s1.heap.objs.size<=b:=λb hb=>by
  simp only[z3,zX6,zZ1,z08]at hb;have key:∀n b:Nat,(b=n\/b=n+1\/b=n+2\/b=n+3\/b=n+4\/b=n+5)->n<=b:=λn b h=>by lia
  exact key _ _ hb
 have J:Inv X pins σ H1 {s1 with heap:=h',toks:=s1.toks}:=f.kept λb o e=>hk b o e;refine z29 (Q:=_) (show wpAny _ _ (spliced []) (λvs t=>vs=[]/\t={s1 with heap:=h'}) X.xe {s1 with heap:=h'}from zY6 ⟨rfl,rfl⟩) (λvs s2 S=>?_) λ_ _ z=>z;obtain⟨rfl,rfl⟩:=S;refine rS (s:={s1 with heap:=h'}) (I.ok.hd hc) E x G J Z (λb hb=>f.hok.fresh (le b hb)) (λb hb H' hn=>f.fpOk (le b hb) hn) i g m e2 e3 h0 M λD s' lD ze fD=>?_;obtain⟨H',acc,vs,e,I',st,Y,N,A,j⟩:=ze.ex;have y:H1 D=none:=J.hok.fresh lD;have l:∀a o,H' a=some o->a≠D/\upd H' D (.lst vs) a=some o:=λa o q=>by
  have n:a≠D:=λz=>by rw[z,N]at q;cases q
  exact⟨n,by rw[zb n];exact q⟩
 refine⟨.ref D,upd H' D (.lst vs),I'.adopt (fD H' N) ⟨?_,acc,e,A,Y⟩,rfl,q D _ vs y (λa o q=>(l a o (st a o q)).2) zi ⟨H',l,j⟩⟩;rw[j.1,z41];exact zO5 M
end
def zn3 (a b c:PyData):PyData:=.tuple [a,b,c]
def we :List PyData->List PyData->List PyData->List PyData
 |a::as,b::bs,c::cs=>zn3 a b c::we as bs cs
 |_,_,_=>[]
theorem uC :∀{as bs cs:List PyData},bs.length=as.length->cs.length=as.length->(we as bs cs).length=as.length
 |[],_,_,_,_=>rfl
 |a::as,b::bs,c::cs,h1,h2=>by rw[we,zY7,zY7,uC (by simpa using h1) (by simpa using h2)]
theorem uH :∀{as bs cs:List PyData}{j:Nat}{d:PyData},(we as bs cs)[j]?=some d->∃a b c,as[j]?=some a/\bs[j]?=some b/\cs[j]?=some c/\d=zn3 a b c
 |[],_,_,j,d,h=>by simp[we]at h
 |a::as,[],_,j,d,h=>by simp[we]at h
 |a::as,b::bs,[],j,d,h=>by simp[we]at h
 |a::as,b::bs,c::cs,0,d,h=>by simp[we]at h;exact⟨a,b,c,rfl,rfl,rfl,h.symm⟩
 |a::as,b::bs,c::cs,j+1,d,h=>by
  obtain⟨x,y,z,e1,f,g,e⟩:=uH (as:=as) (bs:=bs) (cs:=cs) (j:=j) (d:=d) (by simpa[we]using h);exact⟨x,y,z,by simpa using e1,by simpa using f,by simpa using g,e⟩
theorem jd {G:Hp}:∀{vs:List V}{ds:List PyData},vs.length=ds.length->(∀(j:Nat) d,ds[j]?=some d->∃v,vs[j]?=some v/\AV G v d)->AVs G vs ds
 |[],[],_,_=>.nil
 |v::vs,d::ds,b,h=>by
  obtain⟨c,e,a⟩:=h 0 d rfl;cases e;exact .cons a (jd (by simpa using b) λj d' hd=>h (j+1) d' (by simpa using hd))
section
variable {X:Cx}{α:Ev}{a b c:Expr}{p p0 pos pos2:Pos}
theorem nF {Q:List PyData->Prop}(hc:X.calm=true)(hgl:Gl X "list")(v:X.mg "list"=none)(hg:Gl X "zip")(hm:X.mg "zip"=none)
  (h:EvA X α [a,b,c] λas=>∃ds n fs,as=[.dat (.list ds),.dat (.list n),.dat (.list fs)]/\n.length=ds.length/\fs.length=ds.length/\0<ds.length/\ds.length<=1000/\Q (we ds n fs))
  (r:starEach [.Call (.Name "zip" p) [a,b,c] [] pos2] X.env=[(false,eval (.Call (.Name "zip" p) [a,b,c] [] pos2) X.env)]:=by rfl)
  (U:starEach [a,b,c] X.env=(false,eval a X.env)::starEach [b,c] X.env:=by rfl) (hpl:(backTo pos2 (starEach [b,c] X.env)).any (·.1)=false:=by rfl):
  EvL X α (.Call (.Name "list" p0) [.Call (.Name "zip" p) [a,b,c] [] pos2] [] pos) Q:=λF σ H R m k=>by
 refine⟨_,nL hc hgl v hg hm yA r U hpl,?_⟩;refine h F σ H _ m λas vs H1 q1 t1 u f=>?_;have m1:=m.kz u t1;obtain⟨ds,n,fs,rfl,l2,l3,l0,O,q⟩:=q1;cases f with
 |cons P f=>
  cases f with
  |cons r2 f=>
   cases f with
   |cons M f=>
    cases f;obtain⟨a1,xs,rfl,g1,B⟩:=AV.lst_inv P;obtain⟨a2,ys,rfl,g2,I⟩:=AV.lst_inv r2;obtain⟨S,zs,rfl,g3,C⟩:=AV.lst_inv M;have g:=B.length;have Z:=I.length;have y3:=C.length;refine⟨a1,a2,S,xs,ys,zs,rfl,SqL.of (zc g1).2,SqL.of (zc g2).2,SqL.of (zc g3).2,(Z.trans (l2.trans g.symm)),(y3.trans (l3.trans g.symm)),(zX4 l0 (zZ3 g.symm)),(zY1 (zZ3 g) O),λD H' vs l st s tr=>?_⟩;obtain⟨a0,N,i⟩:=tr;have G:zz H1 H':=λa o e=>st a o e;refine k _ _ H' q (t1.same G) (u.trans (Kz.of_same G)) ⟨D,vs,rfl,?_,s,?_⟩
    ·cases z:H D with
     |none=>rfl
     |some o=>rw[u D o z (m.tp.nt (ow0 (m1.fresh l)))]at l;cases l
    ·have w:zz (Gz F α σ H1) (sub (λx=>¬Ow F α σ x/\x≠D) H'):=zq λa o h e=>⟨⟨h,zj e l⟩,st a o e⟩;refine jd (by rw[i.1,uC l2 l3];exact g) λj d hd=>?_;obtain⟨d1,d2,d3,e1,e2,T,rfl⟩:=uH hd;have W:j<xs.length:=by rw[g];exact(zX5.mp e1).1
     obtain⟨t,x,y,z,f1,f2,f3,f4,f5,J⟩:=i.2 j W;obtain⟨x',ex,Y⟩:=B.get e1;obtain⟨y',A,K⟩:=I.get e2;obtain⟨z',E,V⟩:=C.get T;rw[f2]at ex;cases ex;rw[f3]at A;cases A;rw[f4]at E;cases E;obtain⟨nt,L⟩:=N t _ f5;exact⟨_,f1,.tup (zA ⟨m1.fresh J,nt⟩ L) (.cons (Y.same w) (.cons (K.same w) (.cons (V.same w) .nil)))⟩
theorem kH {ns:List Int}{d:List Value}(h:Vals (ns.map V.int) d):∃ps:List (Int×Tok),d=ps.map (λp=>Value.int p.1 p.2)/\ps.map (·.1)=ns:=by
 induction ns generalizing d with
 |nil=>cases h;exact⟨[],rfl,rfl⟩
 |cons n ns e=>cases h with
  |cons h g=>
   obtain⟨ps,e1,f⟩:=e g;obtain⟨t,rfl⟩:=h;exact⟨(n,t)::ps,by rw[e1];rfl,by rw[<-f];rfl⟩
theorem rp (ps:List (Int×Tok))(k:Nat):numAt ps.toArray k=(ps.map (·.1)).getD k 0:=by
 unfold numAt;rw[List.getElem?_toArray,zY2,zY3]
theorem wZ (ps:List (Int×Tok)):∀k,k<=ps.length->preSum (numAt ps.toArray) k=((ps.map (·.1)).take k).sum
 |0,_=>by simp[preSum]
 |k+1,h=>by
  have hk:k<(ps.map (·.1)).length:=by rw[zX0];exact zX4 (z34 _) h
  rw[preSum,wZ ps k (zY1 (zY8 _ _) h),rp,z42,zX3 hk,List.sum_append,zY2,zX3 hk];simp
def Fits (ns:List Int):Prop:=∀k,k<=ns.length->-(2 ^ 62)<=(ns.take k).sum/\(ns.take k).sum<2 ^ 62
theorem fF (t:X.calm=true):yE X (.builtin "sum") (λxs H Q=>∃(l:Addr) (ns:List Int),xs=[.ref l]/\SqL X.K H l (ns.map V.int)/\(∀n∈ns,-(2 ^ 62)<=n/\n<2 ^ 62)/\Fits ns/\Q (.int ns.sum) H):=by
 intro pins s σ H xs us Q I r h;obtain⟨l,ns,rfl,e,hb,hf,q⟩:=h;obtain⟨u,rfl,m⟩:=Vals.one r;cases(show u=Value.ref l from m);obtain⟨g,o,p,hz⟩:=I.list e;obtain⟨ps,rfl,rfl⟩:=kH o;have k:s.heap.IsList l (intItems ps.toArray):=by
  have:=p.isList
  rwa [show intItems ps.toArray=(ps.map λp=>Value.int p.1 p.2).toArray by simp[intItems]]
 refine sum_intList (I.ok.hd t) k (λj i=>?_) λh' tk t' hk=>?_
 ·have d:j<ps.length:=by simpa using i
  have hk:j<(ps.map (·.1)).length:=by rw[zX0];exact d
  rw[wZ ps (j+1) (d),rp,zY2,zX3 hk];have h1:=hb _ (z57 hk);have h2:=hf (j+1) (hk);refine⟨⟨?_,?_⟩,?_,?_⟩
  ·show -(2 ^ 63)<=(ps.map (·.1))[j];exact zs1 h1.1
  ·show(ps.map (·.1))[j]<2 ^ 63;exact zt9 h1.2
  ·exact zs1 h2.1
  ·exact zt9 h2.2
 ·rw[show preSum (numAt ps.toArray) ps.toArray.size=(ps.map (·.1)).sum by rw[zZ0,wZ ps ps.length (zX7 _),<-zX0 (f:=(·.1)) (as:=ps),z58]];exact⟨.int _,H,I.kept (t':=tk) hk,⟨_,rfl⟩,q⟩
theorem pR {Q:PyData->Prop}{e:Expr}(g:X.calm=true)(hg:Gl X "sum")(hm:X.mg "sum"=none)(h:EvD X α e λx=>∃ns:List Int,x=.list (ns.map .int)/\(∀n∈ns,-(2 ^ 62)<=n/\n<2 ^ 62)/\Fits ns/\Q (.int ns.sum))(he:starEach [e] X.env=(false,eval e X.env)::starEach [] X.env:=by rfl):
  EvD X α (.Call (.Name "sum" p) [e] [] pos) Q:=by
 refine xD (fF g) hg hm boot_sum (zm (h.imp λx d=>?_) he) (he:=he);obtain⟨ns,e1,hb,hf,q⟩:=d;refine zx ?_;intro F σ H vs R m f k;subst e1;obtain⟨v,rfl,av⟩:=f.one;obtain⟨a,xs,rfl,h1,h2⟩:=av.lst_inv;cases h2.ints;exact⟨a,ns,rfl,SqL.of (zc h1).2,hb,hf,k _ _ H q m.tp Kz.refl (.int _)⟩
end
def yN :List Int->List Bool->List Int
 |z::zs,b::bs=>if b=true then yN zs bs else z::yN zs bs
 |_,_=>[]
theorem vg :∀{zs:List Int}{bs:List Bool}{z:Int},z∈yN zs bs->z∈zs
 |[],_,z,h=>by simp[yN]at h
 |y::zs,[],z,h=>by simp[yN]at h
 |y::zs,b::bs,z,h=>by
  rw[yN]at h;split at h
  ·exact zX8 _ (vg h)
  ·rcases zX6.mp h with e|h
   ·rw[e];exact zX9
   ·exact zX8 _ (vg h)
theorem uM :∀(zs:List Int) (bs:List Bool),(yN zs bs).length<=zs.length
 |[],_=>by simp[yN]
 |y::zs,[]=>by simp[yN]
 |y::zs,b::bs=>by
  rw[yN];have:=uM zs bs;split
  ·rw[zY7];exact zY1 this (zY8 _ _)
  ·rw[zY7,zY7];exact Nat.add_le_add this (zX7 _)
theorem sum_bound :∀{ns:List Int}{m:Int},0<=m->(∀n∈ns,0<=n/\n<=m)->0<=ns.sum/\ns.sum<=ns.length*m
 |[],m,_,_=>by simp
 |n::ns,m,h0,h=>by
  obtain⟨a,b⟩:=sum_bound h0 λx c=>h x (zX8 _ c);have:=h n zX9;rw[z59,zY7,yf9,Int.add_mul]
  constructor
  ·exact Int.add_nonneg this.1 a
  ·simp;exact zT2 this.2 b
theorem kr {ns:List Int}(h:∀n∈ns,0<=n/\n<=1000000000000)(c:ns.length<=1000):Fits ns:=λk hk=>by
 obtain⟨a,b⟩:=sum_bound (ns:=ns.take k) (m:=1000000000000) (by decide) λn hn=>h n (yb3 hn);have:((ns.take k).length:Int)*1000000000000<=1000*1000000000000:=by
  apply Int.mul_le_mul_of_nonneg_right _ (by decide);rw[z35];exact zJ0 c
 lia
def zE3 (p:Nat):PyData->PyData
 |.tuple [a,b,c]=>if p=1 then b else c
 |_=>.none
def tM :PyData->Bool
 |.tuple [_,_,.bool b]=>b
 |_=>false
theorem sq :∀{ds:List PyData}{zs:List Int}{bs:List Bool},zs.length=ds.length->bs.length=ds.length->((we ds (zs.map .int) (bs.map .bool)).filter λd=>!tM d).map (zE3 1)=(yN zs bs).map .int
 |[],[],[],_,_=>rfl
 |d::ds,z::zs,b::bs,h1,h2=>by
  have a:=sq (ds:=ds) (zs:=zs) (bs:=bs) (by simpa using h1) (by simpa using h2);rw[zZ2,zZ2,we,yN,yb1];cases b with
  |true=>simpa[tM,zn3]using a
  |false=>simp[tM,zn3,zE3];exact a
def wD (d:PyData)(zs:List Int)(bs:List Bool):Prop:=(d=.none/\bs=List.replicate zs.length false)\/∃many free:Nat,d=.tuple [.int many,.int free]/\tw zs many free zs.length bs
theorem wD.len {d:PyData}{zs:List Int}{bs:List Bool}(h:wD d zs bs):bs.length=zs.length:=by
 rcases h with⟨_,rfl⟩|⟨_,_,_,h⟩
 ·simp
 ·exact h.1
def zd0 (d:PyData):Prop:=d=.none\/∃many free:Nat,d=.tuple [.int many,.int free]/\0<free/\free<many/\many<64
theorem my {many free:Nat}{zs:List Int}{bs:List Bool}(h:wD (.tuple [.int many,.int free]) zs bs):tw zs many free zs.length bs:=by
 rcases h with⟨h,_⟩|⟨c,a,h,mk⟩
 ·cases h
 ·injection h with h;injection h with h1 h2;injection h2 with h2 _;injection h1 with h1;injection h2 with h2;have e1:c=many:=(zr1 h1);have b:a=free:=(zr1 h2);rw[e1,b]at mk;exact mk
section
variable {κ:Type}[DecidableEq κ]
def uD (kvs:List (κ×V))(k:κ):Option V:=(kvs.find? λa=>decide (a.1=k)).map (·.2)
def putK (kvs:List (κ×V))(k:κ)(v:V):List (κ×V):=
 if(kvs.any λa=>decide (a.1=k))=true then kvs.map (λa=>if a.1=k then(a.1,v)else a)else kvs++[(k,v)]
theorem ue {p:κ×V}{r:List (κ×V)}{k:κ}(e:p.1=k):uD (p::r) k=some p.2:=by simp[uD,z54,e]
theorem wY {p:κ×V}{r:List (κ×V)}{k:κ}(e:¬p.1=k):uD (p::r) k=uD r k:=by simp[uD,z54,e]
theorem rg (k:κ):∀kvs:List (κ×V),(kvs.any λa=>decide (a.1=k))=(uD kvs k).isSome
 |[]=>rfl
 |p::r=>by
  rw[z87];by_cases e:p.1=k
  ·simp only[ue e,z02 e,Bool.true_or,Option.isSome_some]
  ·rw[wY e,zZ7 e,yh0];exact rg k r
theorem wM (kvs:List (κ×V))(k:κ)(v:V):(putK kvs k v).length<=kvs.length+1:=by
 unfold putK;split
 ·rw[zX0];exact zY8 _ _
 ·rw[zZ9,zY7,z95];lia
theorem vo.isSome_eq {o:Option V}{u:Option Value}(r:vo o u):o.isSome=u.isSome:=by
 cases o with
 |none=>cases u with
  |none=>rfl
  |some _=>exact(show False from r).elim
 |some _=>cases u with
  |none=>exact(show False from r).elim
  |some _=>rfl
theorem KV.val {kvs:List (κ×V)}{vs:List (κ×Value)}(r:KV kvs vs)(k:κ):vo (uD kvs k) (valueAt vs k):=by
 unfold KV at r
 induction r with
 |nil=>exact True.intro
 |@cons p q ps qs h t ih=>
  obtain⟨h1,h2⟩:=h;by_cases e:p.1=k
  ·have a:q.1=k:=h1.symm.trans e;have b:valueAt (q::qs) k=some q.2:=by simp[valueAt,z54,a]
   rw[ue e,b];exact h2
  ·have a:¬q.1=k:=λz=>e (h1.trans z);have b:valueAt (q::qs) k=valueAt qs k:=by simp[valueAt,z54,a]
   rw[wY e,b];exact ih
theorem KV.any {kvs:List (κ×V)}{vs:List (κ×Value)}(r:KV kvs vs)(k:κ):(kvs.any λa=>decide (a.1=k))=vs.any λa=>decide (a.1=k):=by
 unfold KV at r
 induction r with
 |nil=>rfl
 |cons h t b=>rw[z87,z87,b,h.1]
theorem KV.repl {kvs:List (κ×V)}{vs:List (κ×Value)}(r:KV kvs vs)(k:κ){y:V}{u:Value}(b:RelV y u):
  KV (kvs.map λa=>if a.1=k then(a.1,y)else a) (vs.map λa=>if a.1=k then(a.1,u)else a):=by
 unfold KV at r ⊢
 induction r with
 |nil=>exact .nil
 |@cons p q ps qs h t ih=>
  rw[zZ2,zZ2];refine .cons ?_ ih;obtain⟨h1,h2⟩:=h;by_cases e:p.1=k
  ·rw[if_pos e,if_pos (h1.symm.trans e)];exact⟨h1,b⟩
  ·rw[if_neg e,if_neg (λz=>e (h1.trans z))];exact⟨h1,h2⟩
theorem KV.put {kvs:List (κ×V)}{vs:List (κ×Value)}(r:KV kvs vs)(k:κ){y:V}{u:Value}(a:RelV y u):KV (putK kvs k y) (stored vs k u):=by
 unfold putK stored;rw[r.any k];by_cases e:(vs.any λb=>decide (b.1=k))=true
 ·rw[if_pos e,if_pos e];exact r.repl k a
 ·rw[if_neg e,if_neg e];exact Paired.snoc r ⟨rfl,a⟩
theorem KV.length {kvs:List (κ×V)}{vs:List (κ×Value)}(r:KV kvs vs):kvs.length=vs.length:=Paired.length r
end
theorem qr {P:Program}{w:World}{k:Key}{u:Value}(r:RelV (kV k) u):(zX P w).is k u=true:=by
 cases k with
 |inl i=>obtain⟨t,e⟩:=(show ∃t,u=Value.int i t from r);subst e;exact oM P w i t
 |inr x=>obtain⟨t,e⟩:=(show ∃t,u=Value.str x t from r);subst e;exact nX P w x t
theorem qL {P:Program}{w:World}:∀{ks:List Key}{us:List Value},Vals (ks.map kV) us->ItemsAre (zX P w) ks us
 |[],_,r=>by rw[ya5]at r;cases r;exact .nil
 |k::ks,_,r=>by
  rw[zZ2]at r;cases r with
  |cons h t=>exact .cons (qr h) (qL t)
abbrev KT (H:Hp):List (List Key×V)->List (List Key×Addr×Value)->Prop:=Paired λp q=>p.1=q.1/\H q.2.1=some (.tup (p.1.map kV))/\RelV p.2 q.2.2
theorem KT.val {H:Hp}{kvs:List (List Key×V)}{xs:List (List Key×Addr×Value)}(r:KT H kvs xs)(k:List Key):vo (uD kvs k) ((atKey xs k).map (·.2)):=by
 induction r with
 |nil=>exact True.intro
 |@cons p q ps qs h t ih=>
  obtain⟨h1,_,h2⟩:=h;by_cases e:p.1=k
  ·have a:q.1=k:=h1.symm.trans e;have b:atKey (q::qs) k=some q.2:=by simp[atKey,z54,a]
   rw[ue e,b];exact h2
  ·have a:¬q.1=k:=λz=>e (h1.trans z);have b:atKey (q::qs) k=atKey qs k:=by simp[atKey,z54,a]
   rw[wY e,b];exact ih
theorem KT.repl {H:Hp}{kvs:List (List Key×V)}{xs:List (List Key×Addr×Value)}(r:KT H kvs xs)(k:List Key){y:V}{u:Value}(b:RelV y u):
  KT H (kvs.map λa=>if a.1=k then(a.1,y)else a) (xs.map (putAt k u)):=by
 induction r with
 |nil=>exact .nil
 |@cons p q ps qs h t ih=>
  rw[zZ2,zZ2];refine .cons ?_ ih;obtain⟨h1,h2,h3⟩:=h;unfold putAt;by_cases e:p.1=k
  ·rw[if_pos e,if_pos (h1.symm.trans e)];exact⟨h1,h2,b⟩
  ·rw[if_neg e,if_neg (λz=>e (h1.trans z))];exact⟨h1,h2,h3⟩
theorem KT.put {H:Hp}{kvs:List (List Key×V)}{xs:List (List Key×Addr×Value)}(r:KT H kvs xs)(k:List Key){b:Addr}{y:V}{u:Value}(hb:H b=some (.tup (k.map kV)))(a:RelV y u):
  KT H (putK kvs k y) (storedH xs k b u):=by
 have e:(kvs.any λc=>decide (c.1=k))=(atKey xs k).isSome:=by rw[rg,(r.val k).isSome_eq,Option.isSome_map]
 unfold putK storedH;rw[e];by_cases q:(atKey xs k).isSome=true
 ·rw[if_pos q,if_pos q];exact r.repl k a
 ·rw[if_neg q,if_neg q];exact Paired.snoc r ⟨rfl,hb,a⟩
theorem KT.keeps {H H':Hp}{kvs:List (List Key×V)}{xs:List (List Key×Addr×Value)}(r:KT H kvs xs)(a:∀b ys,H b=some (.tup ys)->H' b=some (.tup ys)):KT H' kvs xs:=
 Paired.mapP r λ_ _ z=>⟨z.1,a _ _ z.2.1,z.2.2⟩
section
variable {P:Program}{w:World}{H:Hp}{h:Heap}{a:Addr}
theorem zu5 {u:HO}(ok:HOk P w H h)(e:Rd H a u):zE P w H h a u:=e.ok ok
theorem qA {kvs:List (Key×V)}(ok:HOk P w H h)(e:Rd H a (.dK kvs)):kvs.length<=sizeLine/\(a == sysModules)=false/\∃vs,KV kvs vs/\h.DictOf (zX P w) a vs:=
 show zE P w H h a (.dK kvs)from zu5 ok e
theorem zt1 {kvs:List (Key×V)}(ok:HOk P w H h)(e:H a=some (.dK kvs)):kvs.length<=sizeLine/\(a == sysModules)=false/\∃vs,KV kvs vs/\h.DictOf (zX P w) a vs:=qA ok (.inl e)
theorem sU {ks:List Key}(ok:HOk P w H h)(e:H a=some (.tup (ks.map kV))):(tupleKind (zX P w)).is h ks a:=by
 obtain⟨_,b,r,o,h1,h2,n,h3⟩:=(show zE P w H h a (.tup (ks.map kV))from ok a _ e);exact⟨o,b.toArray,n,h1,h2,h3,by simpa using qL r⟩
theorem qS {kvs:List (List Key×V)}(ok:HOk P w H h)(e:Rd H a (.dT kvs)):kvs.length<=sizeLine/\(a == sysModules)=false/\
  ∃xs,KT H kvs xs/\h.DictOfH (tupleKind (zX P w)) a xs:=by
 obtain⟨z,y,xs,r,o,d,c,h1,h2,h3,g,f⟩:=(show zE P w H h a (.dT kvs)from zu5 ok e);refine⟨z,y,xs,r,o,d,c,h1,h2,h3,g,λx b=>?_,f⟩;have all:∀{l:List (List Key×V)} {m:List (List Key×Addr×Value)},KT H l m->∀x∈m,(tupleKind (zX P w)).is h x.1 x.2.1:=by
  intro l m q
  induction q with
  |nil=>intro x b;exact nomatch b
  |@cons p q ps qs hq t ih=>
   intro x b;rcases zX6.mp b with e|b
   ·subst e;exact sU ok (by rw[<-hq.1];exact hq.2.1)
   ·exact ih x b
 exact all r x b
theorem zO3 {kvs:List (List Key×V)}(ok:HOk P w H h)(e:H a=some (.dT kvs)):kvs.length<=sizeLine/\(a == sysModules)=false/\
  ∃xs,KT H kvs xs/\h.DictOfH (tupleKind (zX P w)) a xs:=qS ok (.inl e)
end
def kf (H:Hp)(a:Addr)(y:V)(r:Option V):Prop:=
 (∃kvs k,Rd H a (.dK kvs)/\y=kV k/\r=uD kvs k)\/∃kvs k b,Rd H a (.dT kvs)/\y=.ref b/\H b=some (.tup (k.map kV))/\r=uD kvs k
def dE (H:Hp)(a:Addr)(y v:V)(H':Hp):Prop:=
 (∃kvs k,H a=some (.dK kvs)/\y=kV k/\kvs.length<sizeLine/\H'=upd H a (.dK (putK kvs k v)))\/
 ∃kvs k b,H a=some (.dT kvs)/\y=.ref b/\H b=some (.tup (k.map kV))/\kvs.length<sizeLine/\H'=upd H a (.dT (putK kvs k v))
theorem dE.k {H:Hp}{a:Addr}{kvs:List (Key×V)}{k:Key}{v:V}(e:H a=some (.dK kvs))(b:kvs.length<sizeLine):dE H a (kV k) v (upd H a (.dK (putK kvs k v))):=.inl ⟨kvs,k,e,rfl,b,rfl⟩
section
variable {X:Cx}{pins:List (Addr×Obj)}{σ:St}{H:Hp}{s:Shared}{a:Addr}{y v:V}{u r:Value}{o:Option V}{A:Around}{E:Value->Shared->Prop}
theorem Inv.big (I:Inv X pins σ H s):sysModules<s.heap.objs.size:=by
 have h:mainGlobals<s.heap.objs.size:=(I.mod.glob.keeps I.bk).lt;exact Nat.lt_trans (by decide) h
theorem fO {Q:Value->Shared->Prop}(n:A.units+1<cLine)(I:Inv X pins σ H s)(g:kf H a y (some v))(m:RelV y u)(h:∀d s',Inv X pins σ H s'->RelV v d->Q d s'):
  wpAny (model X.prog X.w) A (getItem (.ref a) u) Q E s:=by
 rcases g with⟨kvs,k,e,i,l⟩|⟨kvs,k,b,e,i,t,l⟩
 ·subst i;obtain⟨z,hd,vs,rel,f⟩:=qA I.hok e;obtain⟨d,hw,c⟩:=vo.some_of (v:=v) (o:=valueAt vs k) (by rw[l];exact rel.val k);exact wpAny_getItem_of (qr m) f.mapOf hw (h d _ (I.tok _) c)
 ·subst i;cases(show u=Value.ref b from m);obtain⟨z,hd,xs,rel,f⟩:=qS I.hok e;obtain⟨d,hw,c⟩:=vo.some_of (v:=v) (o:=(atKey xs k).map (·.2)) (by rw[l];exact rel.val k);obtain⟨p,q,j⟩:=zZ4.mp hw;refine wpAny_getItem_heap (yd1 n) (sU I.hok t) f q ?_;rw[j];exact h d _ (I.tok _) c
theorem zU4 {Q:Value->Shared->Prop}(i:A.units+1<cLine)(I:Inv X pins σ H s)(g:kf H a y o)(f:RelV y u)(h:∀s',Inv X pins σ H s'->Q (.bool o.isSome) s'):
  wpAny (model X.prog X.w) A (compareOp .In u (.ref a)) Q E s:=by
 rcases g with⟨kvs,k,e,d,l⟩|⟨kvs,k,b,e,d,j,l⟩
 ·subst d;obtain⟨z,hd,vs,rel,c⟩:=qA I.hok e;refine wpAny_in_of (qr f) hd c.mapOf ?_;rw[<-(rel.val k).isSome_eq,<-l];exact h _ (I.tok _)
 ·subst d;cases(show u=Value.ref b from f);obtain⟨z,hd,xs,rel,c⟩:=qS I.hok e;refine wpAny_in_heap (yd1 i) (sU I.hok j) hd c ?_;have q:=(rel.val k).isSome_eq;rw[Option.isSome_map]at q;rw[<-q,<-l];exact h _ (I.tok _)
theorem zk0 {Q:Value->Shared->Prop}(i:A.units+1<cLine)(I:Inv X pins σ H s)(g:kf H a y o)(f:RelV y u)(h:∀s',Inv X pins σ H s'->Q (.bool (!o.isSome)) s'):
  wpAny (model X.prog X.w) A (compareOp .NotIn u (.ref a)) Q E s:=by
 rcases g with⟨kvs,k,e,d,l⟩|⟨kvs,k,b,e,d,j,l⟩
 ·subst d;obtain⟨z,hd,vs,rel,c⟩:=qA I.hok e;refine wpAny_notIn_of (qr f) hd c.mapOf ?_;rw[<-(rel.val k).isSome_eq,<-l];exact h _ (I.tok _)
 ·subst d;cases(show u=Value.ref b from f);obtain⟨z,hd,xs,rel,c⟩:=qS I.hok e;refine wpAny_notIn_heap (yd1 i) (sU I.hok j) hd c ?_;have q:=(rel.val k).isSome_eq;rw[Option.isSome_map]at q;rw[<-q,<-l];exact h _ (I.tok _)
theorem pF {h':Heap}{t':Nat}{ob:HO}(I:Inv X pins σ H s)(d:Mut (H a))(c:Heap.SameBut a s.heap h')(he:∃q,h'.get? a=some q)(new:zE X.prog X.w (upd H a ob) h' a ob):
  Inv X pins σ (upd H a ob) {s with heap:=h',toks:=t'}:=
 I.write (x:=a) (e:=a) d (.inl rfl) (λb q hb z=>(c.2 b hb).trans z) he new
theorem eY {P:Program}{w:World}{H':Hp}{h':Heap}{kvs:List (Key×V)}{vs:List (Key×Value)}(z:kvs.length<=sizeLine)(hd:(a == sysModules)=false)(rel:KV kvs vs)(b:h'.DictOf (zX P w) a vs):
  zE P w H' h' a (.dK kvs):=⟨z,hd,vs,rel,b⟩
theorem gc {H':Hp}{Q:Unit->Shared->Prop}(J:A.units+1<cLine)(I:Inv X pins σ H s)(g:dE H a y v H')(x:RelV y u)(t:RelV v r)(h:∀s',Inv X pins σ H' s'->Q () s'):
  wpAny (model X.prog X.w) A (setItem (.ref a) u r) Q E s:=by
 rcases g with⟨kvs,k,e,j,l,n⟩|⟨kvs,k,b,e,j,B,l,n⟩
 ·subst j n;obtain⟨z,hd,vs,rel,i⟩:=zt1 I.hok e;have hz:vs.length<=sizeLine:=by rw[<-rel.length];exact z
  have f:(putK kvs k v).length<=sizeLine:=by have:=wM kvs k v;exact zY1 this l
  refine wpAny_setItem_pairs (hsz:=hz) (qr x) i λh' d m=>h _ ?_;have he:∃q,h'.get? a=some q:=let⟨q,_,_,hq,_⟩:=d;⟨q,hq⟩;exact pF I (by rw[e];exact True.intro) m he (eY f hd (rel.put k t) d)
 ·subst j n;cases(show u=Value.ref b from x);obtain⟨z,hd,xs,rel,i⟩:=zO3 I.hok e;have hz:xs.length<=sizeLine:=by rw[<-Paired.length rel];exact z
  have f:(putK kvs k v).length<=sizeLine:=by have:=wM kvs k v;exact zY1 this l
  refine wpAny_setItem_heap (hsz:=hz) (yd1 J) (sU I.hok B) i λh' d m=>h _ ?_;obtain⟨q,G,F,hq,h2,h3,D,_,C⟩:=d;refine pF I (by rw[e];exact True.intro) m ⟨q,hq⟩ ⟨f,hd,_,(rel.put k B t).keeps λc ys p=>?_,q,G,F,hq,h2,h3,D,C⟩;rw[zb (eo p e (λz=>nomatch z))];exact p
end
section
variable {X:Cx}{pins:List (Addr×Obj)}{σ:St}{H:Hp}{s:Shared}{a:Addr}{kvs:List (Key×V)}{k:Key}{u:Value}{A:Around}{E:Value->Shared->Prop}
end
theorem mB {X:Cx}{pins:List (Addr×Obj)}{σ:St}{H:Hp}{s:Shared}{a:Addr}{y:V}{o:Option V}(I:Inv X pins σ H s)(g:kf H a y o):s.TypeIs (.ref a) "dict":=by
 rcases g with⟨kvs,k,e,_,_⟩|⟨kvs,k,b,e,_,_,_⟩
 ·obtain⟨_,_,vs,_,c⟩:=qA I.hok e;exact c.typeIs
 ·obtain⟨_,_,xs,_,c⟩:=qS I.hok e;exact c.typeIs
def zK6 (e ty d:TE):TS:=λD σ H=>d σ H λv H1=>e σ H1 λx f=>ty σ f λy c=>∃a b,x=.ref a/\dE c a y v b/\D.nx σ b
section
variable {X:Cx}{o i e value:Expr}{pos pos' tpos:Pos}{td ty tv:TE}
theorem ze3 (p:X.A.units+1<cLine)(j:PE X o td)(hi:PE X i ty)(b:PE X value tv)(B:swapsWith value (some (.Subscript o i pos')) pos.line X.env=pure false):
  PS X (.Assign [.Subscript o i pos'] value pos) (zK6 td ty tv):=by
 intro pins s σ H D I h;refine wpAny_Assign_Subscript (thn (b pins s σ H _ I h) λr s1 ⟨v,H1,w,d,c⟩=>thn (j pins s1 σ H1 _ w c) λu s2 ⟨x,f,l,z,n⟩=>thn (hi pins s2 σ f _ l n) λE s3 ⟨y,F,C,m,a,t,ex,g,k⟩=>?_) B;subst ex;obtain rfl:u=Value.ref a:=z;exact gc p C g m d λs4 q=>⟨σ,t,q,k⟩
end
theorem dS {P:Program}{w:World}{H:Hp}(h:Heap)(hb:sysModules<h.objs.size):zE P w H (h.push {cls:=.type "dict",data:=.dict #[]}) h.objs.size (.dK []):=
 ⟨zY9 _,z74.mpr (z09 (zZ6 hb)),[],.nil,Heap.DictOf.new h⟩
section
variable {X:Cx}{pos:Pos}
end
def ki :List (TE×TE)->St->Hp->(List (V×V)->Hp->Prop)->Prop
 |[],_,H,Q=>Q [] H
 |(tk,tv)::r,σ,H,Q=>tk σ H λx H1=>tv σ H1 λy b=>ki r σ b λps a=>Q ((x,y)::ps) a
abbrev VV :List (V×V)->List (Value×Value)->Prop:=Paired λp q=>RelV p.1 q.1/\RelV p.2 q.2
def PPs (X:Cx)(pos:Pos)(keys:List (Option Expr))(values:List Expr)(a:List (TE×TE)):Prop:=
 ∀(pins:List (Addr×Obj)) (s:Shared) (σ:St) (H:Hp) (Q:List (V×V)->Hp->Prop),Inv X pins σ H s->ki a σ H Q->
  wpAny (model X.prog X.w) X.A (evalPairs (pairTrees keys values X.env pos)) (λvs s'=>∃ps H',Inv X pins σ H' s'/\VV ps vs/\Q ps H') X.xe s
theorem zg5 {X:Cx}{pos:Pos}:PPs X pos [] [] []:=λpins s σ H Q I h=>pairTrees_nil_walk ⟨[],H,I,.nil,h⟩
theorem eE {X:Cx}{pos:Pos}{k v:Expr}{ks:List (Option Expr)}{vs:List Expr}{tk b:TE}{a:List (TE×TE)}(hk:PE X k tk)(c:PE X v b)(hr:PPs X pos ks vs a):
  PPs X pos (some k::ks) (v::vs) ((tk,b)::a):=λpins s σ H Q I h=>
 pairTrees_cons_walk (thn (hk pins s σ H _ I h) λu s1 ⟨x,H1,m,n,d⟩=>thn (c pins s1 σ H1 _ m d) λp s2 ⟨y,e,g,j,l⟩=>
  thn (hr pins s2 σ e _ g l) λws s3 ⟨ps,i,o,rel,f⟩=>⟨(x,y)::ps,i,o,.cons ⟨n,j⟩ rel,f⟩)
def uA (kvs more:List (Key×V)):List (Key×V):=more.foldl (λacc a=>putK acc a.1 a.2) kvs
theorem KV.merge :∀{more:List (Key×V)}{rs:List (Key×Value)}{kvs:List (Key×V)}{vs:List (Key×Value)},KV more rs->KV kvs vs->KV (uA kvs more) (merged vs rs):=by
 intro more rs kvs vs r;unfold KV at r
 induction r generalizing kvs vs with
 |nil=>intro q;exact q
 |@cons p q ps qs h t ih=>
  intro a;have e:KV (putK kvs p.1 p.2) (stored vs q.1 q.2):=by
   have:=a.put p.1 h.2;rw[<-h.1];exact this
  exact ih e
theorem vp :∀(more kvs:List (Key×V)),(uA kvs more).length<=kvs.length+more.length
 |[],kvs=>by show kvs.length<=kvs.length+0;exact zY8 _ _
 |p::r,kvs=>by
  have h1:=vp r (putK kvs p.1 p.2);have h2:=wM kvs p.1 p.2;show(uA (putK kvs p.1 p.2) r).length<=_;rw[zY7];exact zW6 h1 h2
theorem tW {P:Program}{w:World}:∀{kvs:List (Key×V)}{ws:List (Value×Value)},VV (kvs.map λd=>(kV d.1,d.2)) ws->∃rs,Carries (zX P w) ws rs/\KV kvs rs
 |[],_,r=>by rw[ya5]at r;cases r;exact⟨[],True.intro,.nil⟩
 |p::kvs,_,r=>by
  rw[zZ2]at r;cases r with
  |@cons a b as bs h t=>
   obtain⟨rs,c,q⟩:=tW (P:=P) (w:=w) t;obtain⟨f,e⟩:=b;exact⟨(p.1,e)::rs,⟨qr h.1,rfl,c⟩,.cons ⟨rfl,h.2⟩ q⟩
def zR1 (a:List (TE×TE)):TE:=λσ H Q=>∀p,H p=none->ki a σ (upd H p (.dK [])) λps c=>c p=some (.dK [])/\∃kvs:List (Key×V),ps=kvs.map (λb=>(kV b.1,b.2))/\kvs.length<=15/\Q (.ref p) (upd c p (.dK (uA [] kvs)))
theorem zo6 {X:Cx}{pos:Pos}{keys:List (Option Expr)}{values:List Expr}{d:List (TE×TE)}(h:PPs X pos keys values d)(b:keys.all (·.isSome)=true)(m:keys.length=values.length)(h0:keys≠[])
  (i:keys.length<=15):PE X (.Dict keys values pos) (zR1 d):=by
 intro pins s σ H Q I q;have hn:=I.hok.fresh (zX7 s.heap.objs.size);have u:=I.laid (a:=s.heap.objs.size) (o:=.dK []) (h':=s.heap.push {cls:=.type "dict",data:=.dict #[]}) (t':=s.toks) (λ_ _ q=>zX2 _ q) (zX7 _) (dS s.heap I.big);refine wpAny_Dict_walk (knd:=zX X.prog X.w) b m h0 i (thn (h pins _ σ _ _ u (q _ hn)) λws s2 g=>?_);obtain⟨ps,y,j,rel,e,kvs,n,x,p⟩:=g;subst n;obtain⟨rs,c,l⟩:=tW (P:=X.prog) (w:=X.w) rel;obtain⟨z,hd,k,t,r⟩:=zt1 j.hok e;cases t;refine⟨rs,c,r,λh' f v=>⟨.ref s.heap.objs.size,_,?_,rfl,p⟩⟩;have hz:(uA [] kvs).length<=sizeLine:=by
  have h1:=vp kvs [];rw[z95]at h1;rw[z41];lia
 have he:∃q,h'.get? s.heap.objs.size=some q:=let⟨q,_,_,hq,_⟩:=f;⟨q,hq⟩;exact pF j (by rw[e];exact True.intro) v he (eY hz hd (l.merge .nil) f)
def IsD (H:Hp)(a:Addr):Prop:=(∃kvs,Rd H a (.dK kvs))\/∃kvs,Rd H a (.dT kvs)
theorem zx7 {X:Cx}{pins:List (Addr×Obj)}{σ:St}{H:Hp}{s:Shared}{a:Addr}(I:Inv X pins σ H s)(d:IsD H a):
  s.TypeIs (.ref a) "dict"/\(∀b,Value.ref a=.ref b->∃ob,s.heap.get? b=some ob/\ob.dict=none)/\(a == sysModules)=false:=by
 rcases d with⟨kvs,e⟩|⟨kvs,e⟩
 ·obtain⟨_,hd,vs,_,c⟩:=qA I.hok e;refine⟨c.typeIs,λb q=>?_,hd⟩;cases q;obtain⟨ob,_,_,h1,h2,_⟩:=c;exact⟨ob,h1,h2.2.1⟩
 ·obtain⟨_,hd,xs,_,c⟩:=qS I.hok e;refine⟨c.typeIs,λb q=>?_,hd⟩;cases q;obtain⟨ob,_,_,h1,h2,_⟩:=c;exact⟨ob,h1,h2.2.1⟩
section
variable {X:Cx}{pins:List (Addr×Obj)}{σ:St}{H:Hp}{s:Shared}{a:Addr}{y d:V}{u r:Value}{o:Option V}{A:Around}{E:Value->Shared->Prop}
end
section
variable {X:Cx}{o e f:Expr}{apos cpos:Pos}{td ty tx:TE}
end
section
variable {X:Cx}{pins:List (Addr×Obj)}{σ:St}{H:Hp}{s:Shared}{a:Addr}{kvs:List (Key×V)}{A:Around}{E:Value->Shared->Prop}
end
section
variable {X:Cx}{pins:List (Addr×Obj)}{σ:St}{H:Hp}{s:Shared}{a:Addr}{y:V}{u:Value}{A:Around}{E:Value->Shared->Prop}
end
def kEq :PyData->Key->Bool
 |.int i,.inl j=>decide (i=j)
 |.str x,.inr y=>decide (x=y)
 |_,_=>false
theorem rK (k j:Key):kEq (xG k) j=decide (k=j):=by
 cases k<;>cases j<;>simp[kEq,xG]
def ug :List (PyData×PyData)->Key->Option PyData
 |[],_=>none
 |(p,d)::r,k=>if kEq p k=true then some d else ug r k
def putD (ds:List (PyData×PyData))(k:Key)(d:PyData):List (PyData×PyData):=
 if(ug ds k).isSome=true then ds.map (λp=>if kEq p.1 k=true then(p.1,d)else p)else ds++[(xG k,d)]
theorem AVk.get {H:Hp}:∀{kvs:List (Key×V)}{ds:List (PyData×PyData)}{k:Key}{d:PyData},AVk H kvs ds->ug ds k=some d->∃v,uD kvs k=some v/\AV H v d
 |_,_,k,d,.nil,e=>by cases e
 |_,_,k,d,.cons (k:=j) h r,e=>by
  unfold ug at e;rw[rK]at e;by_cases z:j=k
  ·rw[z02 z,if_pos rfl]at e;cases e;exact⟨_,ue z,h⟩
  ·rw[zZ7 z,if_neg (by decide)]at e;rw[wY z];exact AVk.get r e
theorem AVk.none {H:Hp}{kvs:List (Key×V)}{ds:List (PyData×PyData)}{k:Key}(h:AVk H kvs ds)(e:ug ds k=Option.none):uD kvs k=Option.none:=by
 induction h using AVk.ind with
 |nil=>rfl
 |@cons j _ _ _ _ h r ih=>
  unfold ug at e;rw[rK]at e;by_cases z:j=k
  ·rw[z02 z,if_pos rfl]at e;cases e
  ·rw[zZ7 z,if_neg (by decide)]at e;rw[wY z];exact ih e
theorem AVk.some_iff {H:Hp}{kvs:List (Key×V)}{ds:List (PyData×PyData)}(h:AVk H kvs ds)(k:Key):(uD kvs k).isSome=(ug ds k).isSome:=by
 cases e:ug ds k with
 |none=>rw[h.none e];rfl
 |some d=>
  obtain⟨v,a,_⟩:=h.get e;rw[a];rfl
theorem AVk.length {H:Hp}{kvs:List (Key×V)}{ds:List (PyData×PyData)}(h:AVk H kvs ds):kvs.length=ds.length:=h.ind (motive:=λxs ds _=>xs.length=ds.length) rfl λ_ _ z=>congrArg (·+1) z
theorem AVk.snoc {H:Hp}{k:Key}{v:V}{d:PyData}(a:AV H v d):∀{kvs:List (Key×V)}{ds:List (PyData×PyData)},AVk H kvs ds->AVk H (kvs++[(k,v)]) (ds++[(xG k,d)])
 |_,_,.nil=>.cons a .nil
 |_,_,.cons h r=>.cons h (AVk.snoc a r)
theorem AVk.repl {H:Hp}{k:Key}{v:V}{d:PyData}(a:AV H v d):∀{kvs:List (Key×V)}{ds:List (PyData×PyData)},AVk H kvs ds->AVk H (kvs.map λb=>if b.1=k then(b.1,v)else b) (ds.map λp=>if kEq p.1 k=true then(p.1,d)else p)
 |_,_,.nil=>.nil
 |_,_,.cons (k:=j) h r=>by
  rw[zZ2,zZ2];show AVk H ((if j=k then(j,v)else(j,_))::_) ((if kEq (xG j) k=true then(xG j,d)else(xG j,_))::_);rw[rK];by_cases z:j=k
  ·rw[if_pos z,z02 z,if_pos rfl];exact .cons a (AVk.repl a r)
  ·rw[if_neg z,zZ7 z,if_neg (by decide)];exact .cons h (AVk.repl a r)
theorem AVk.put {H:Hp}{kvs:List (Key×V)}{ds:List (PyData×PyData)}{k:Key}{v:V}{d:PyData}(h:AVk H kvs ds)(a:AV H v d):AVk H (putK kvs k v) (putD ds k d):=by
 unfold putK putD;rw[rg,h.some_iff];split
 ·exact h.repl a
 ·exact h.snoc a
theorem AVk.at {H:Hp}{kvs:List (Key×V)}{ds:List (PyData×PyData)}{i:Nat}{p:PyData×PyData}(h:AVk H kvs ds)(e:ds[i]?=some p):∃k v,kvs[i]?=some (k,v)/\p.1=xG k/\AV H v p.2:=by
 induction h using AVk.ind generalizing i with
 |nil=>simp at e
 |cons h _ a=>
  cases i with
  |zero=>exact z00 e▸⟨_,_,rfl,rfl,h⟩
  |succ i=>exact a (i:=i) e
theorem ir {H:Hp}(k:Key):AV H (kV k) (xG k):=by cases k with
 |inl i=>exact .int i
 |inr x=>exact .str x
theorem tJ {H:Hp}{v:V}{k:Key}(h:AV H v (xG k)):v=kV k:=by
 cases k with
 |inl i=>exact h.int_inv
 |inr x=>exact h.str_inv
theorem AV.dk_inv {H:Hp}{v:V}{ds:List (PyData×PyData)}(h:AV H v (yT ds)):∃a o kvs,v=.ref a/\H a=some (.frz o (.dK kvs))/\AVk H kvs ds:=by
 generalize e:yT ds=d at h;cases h with
 |dk h1 h2=>cases e;exact⟨_,_,_,rfl,h1,h2⟩
 |_=>cases e
theorem gp {H:Hp}{l:Addr}{o:Obj}{u:HO}(h:H l=some (.frz o u)):Plain H l:=by
 first
 |exact trivial
 |(intro v e;rw[h]at e;cases e;exact⟨(λz=>by cases z),λps z=>by cases z⟩)
section
variable {X:Cx}{pins:List (Addr×Obj)}{σ:St}{H:Hp}{s:Shared}{l:Addr}{kvs:List (Key×V)}
def zK1 (X:Cx)(l:Addr):Prop:=∀o u,X.H₀ l≠some (.frz o u)
theorem Inv.fz (I:Inv X pins σ H s)(h:H l=some (.dK kvs)):zK1 X l/\∃o,Inv X pins σ (upd H l (.frz o (.dK kvs))) s:=by
 refine⟨(λo u z=>by rw[I.base.frzs _ _ _ z]at h;cases h),?_⟩;obtain⟨z,y,vs,r,ob,d,a,e,c⟩:=(show zE X.prog X.w H s.heap l (.dK kvs)from I.hok l _ h);refine⟨ob,I.write (h':=s.heap) (t':=s.toks) (x:=l) (e:=l) (by rw[h];exact trivial) (.inl rfl) (λb u _ q=>q) ⟨ob,e⟩ ?_⟩;exact⟨e,z,y,vs,r,ob,d,a,e,c⟩
theorem Inv.unfz {o:Obj}(f:zK1 X l)(I:Inv X pins σ H s)(h:H l=some (.frz o (.dK kvs))):Inv X pins σ (upd H l (.dK kvs)) s:=by
 have ne:∀{b:Addr},H b=none->upd H l (.dK kvs) b=none:=λ{b} e=>by rw[zb λz=>by rw[z,h]at e;cases e];exact e
 refine⟨I.ok,I.os,I.bare,⟨I.base.keep,I.base.slot,λb ob q n a=>ne (I.base.free b ob q n a),I.base.there,λb xs q=>?_,λb ob u q=>?_,λb ps q=>?_⟩,I.loc,I.cell,ne I.free,λx c e=>ne (I.freeC x c e),λp d=>?_,λb u q=>?_,I.len⟩
 ·have:=I.base.tups b xs q;rw[zb λz=>by rw[z,h]at this;cases this];exact this
 ·rw[zb λz=>by rw[z]at q;exact f _ _ q];exact I.base.frzs b ob u q
 ·obtain⟨more,this⟩:=I.base.tbls b ps q;exact⟨more,by rw[zb λz=>by rw[z,h]at this;cases this];exact this⟩
 ·obtain⟨h1,h2,h3⟩:=I.pin p d;exact⟨h1,ne h2,h3⟩
 ·have st:∀{b:Addr} {u:HO},zE X.prog X.w H s.heap b u->zE X.prog X.w (upd H l (.dK kvs)) s.heap b u:=λ{b u} x=>x.stay (λ_ _ _ q=>q)
   (λc e=>by rw[zb λz=>by rw[z,h]at e;cases e];exact e) λc xs e=>by rw[zb λz=>by rw[z,h]at e;cases e];exact e
  by_cases z:b=l
  ·subst z;rw[zi]at q;cases q;obtain⟨_,w⟩:=(show zE X.prog X.w H s.heap b (.frz o (.dK kvs))from I.hok b _ h);exact st w
  ·rw[zb z]at q;exact st (I.hok b u q)
end
section
variable {X:Cx}{e:Expr}{sts:List Stmt}
theorem zO9 {t:TE}{l:Addr}{kvs:List (Key×V)}(h:PE X e t):PE X e (λσ H Q=>H l=some (.dK kvs)/\∀o,t σ (upd H l (.frz o (.dK kvs))) λv b=>b l=some (.frz o (.dK kvs))/\Q v (upd b l (.dK kvs))):=by
 intro pins s σ H Q I ⟨hl,q⟩;obtain⟨d,o,f⟩:=I.fz hl;refine thn (h pins s σ _ _ f (q o)) λu s1 a=>?_;obtain⟨v,b,g,r,e,c⟩:=a;exact⟨v,_,g.unfz d e,r,c⟩
theorem zF9 {t:TS}{l:Addr}{kvs:List (Key×V)}(h:PSs X sts t):PSs X sts (λD σ H=>H l=some (.dK kvs)/\∀o,t D σ (upd H l (.frz o (.dK kvs)))):=by
 intro pins s σ H D I ⟨hl,q⟩;obtain⟨b,o,a⟩:=I.fz hl;exact h pins s σ _ _ a (q o)
end
section
variable {X:Cx}{α:Ev}{e a b:Expr}{pos p:Pos}{Q:PyData->Prop}
theorem M.fzk {F:Fr}{σ:St}{H:Hp}{i:Nat}{ds:List (PyData×PyData)}{l:Addr}{kvs:List (Key×V)}{o:Obj}(m:M F α σ H)(hi:α[i]?=some (some (.dic ds)))(v:σ[i]?=some (some (.ref l)))(E:H l=some (.dK kvs)):
  M F (α.set i (some (.dat (yT ds)))) σ (upd H l (.frz o (.dK kvs))):=by
 obtain⟨W,G,h1,h2,h3,A,L⟩:=m.dic i ds hi;rw[v]at h1;cases h1;rw[E]at h2;cases h2;have nl:¬Ow F (α.set i (some (.dat (yT ds)))) σ l:=m.gave hi v rfl λc z=>by cases z;exact id
 have ol:Ow F α σ l:=.inr ⟨i,_,_,hi,v,rfl⟩;have I:zz (Gz F α σ H) (Gz F (α.set i (some (.dat (yT ds)))) σ (upd H l (.frz o (.dK kvs)))):=λx u e=>by
  obtain⟨U,S⟩:=zc (aS (b:=.dat (yT ds)) (i:=i) (λ_ _ f=>f) x u e);exact zA U (by rw[zb λz=>(zc e).1 (by rw[z];exact ol)];exact S)
 have D:Plain H l:=rM E;refine⟨by rw[z48];exact m.len,λj c s e1 h=>?_,λj B c d s t x e1 h N R f1 f2=>?_,λj r q e B c s x e1 h f=>?_,m.tp.updO A D,λy u e n=>?_,λy hy=>?_⟩
 ·rcases zL e1 with⟨rfl,z⟩|⟨w,g⟩
  ·cases z;rw[v]at h;cases h;exact⟨_,rfl,.dk (zA nl zi) (h3.same I)⟩
  ·refine(m.ok j c s g h).stay I (λy u f e=>?_) rfl λr q O k=>⟨k.tp,k.o,k.ok.updO (λz=>A (k.o _ z)) D,λy u e n=>?_⟩
   ·obtain⟨T,J,_⟩:=m.ft g h f;refine⟨?_,T,J⟩;rw[zb λz=>w (m.dj i j _ c _ s l hi g v h rfl (by rw[<-z];exact f))];exact e
   ·rw[zb (zj e (m.xd j r q (by rw[<-O];exact g) i _ _ l hi v rfl))];exact k.k y u e n
 ·rcases zL e1 with⟨rfl,z⟩|⟨w,g⟩
  ·cases z;exact f1.elim
  ·rcases zL h with⟨rfl,z⟩|⟨P,C⟩
   ·cases z;exact f2.elim
   ·exact m.dj j B c d s t x g C N R f1 f2
 ·rcases zL e with⟨_,z⟩|⟨_,K⟩
  ·cases z
  ·rcases zL e1 with⟨rfl,z⟩|⟨w,g⟩
   ·cases z;exact f.elim
   ·exact m.xd j r q K B c s x g h f
 ·rw[zb (zj e L)];exact m.keep y u e n
 ·rw[zb (λz=>A (by rw[<-z];exact hy))];exact m.oex y hy
theorem M.fzback {F:Fr}{σ:St}{H d:Hp}{i:Nat}{ds:List (PyData×PyData)}{l:Addr}{kvs:List (Key×V)}{o:Obj}(m:M F α σ H)(hi:α[i]?=some (some (.dic ds)))(A:σ[i]?=some (some (.ref l)))(w:H l=some (.dK kvs))
  (t:zG F d) (k:Kz F (upd H l (.frz o (.dK kvs))) d):d l=some (.frz o (.dK kvs))/\zG F (upd d l (.dK kvs))/\Kz F H (upd d l (.dK kvs))/\
   ∀x u,¬Ob u->Gz F (α.set i (some (.dat (yT ds)))) σ d x=some u->Gz F α σ (upd d l (.dK kvs)) x=some u:=by
 obtain⟨K,C,h1,h2,h3,B,J⟩:=m.dic i ds hi;rw[A]at h1;cases h1;rw[w]at h2;cases h2;have v:d l=some (.frz o (.dK kvs)):=k _ _ zi (m.tp.nt B);have D:Plain d l:=gp v;refine⟨v,t.updO B D,λx u e n=>?_,λx u G e=>?_⟩
 ·by_cases z:x=l
  ·subst z;rw[w]at e;cases e;exact zi
  ·rw[zb z];exact k x u (by rw[zb z];exact e) n
 ·obtain⟨I,r⟩:=zc e;have nx:x≠l:=λz=>by rw[z,v]at r;cases r;exact G trivial
  refine zA (λq=>I ?_) (by rw[zb nx];exact r);rcases q with z|⟨j,c,s,g,h,f⟩
  ·exact .inl z
  ·by_cases y:i=j
   ·subst y;rw[hi]at g;cases g;rw[A]at h;cases h;have E:some (V.ref l)=some (.ref x):=f;cases E;exact absurd rfl nx
   ·exact .inr ⟨j,c,s,by rw[su y];exact g,h,f⟩
theorem dP {Q:List PyData->Prop}(i:Nat){ds:List (PyData×PyData)}(hi:α[i]?=some (some (.dic ds)))(h:EvL X (α.set i (some (.dat (yT ds)))) e λd=>wU d=true/\Q d):EvL X α e Q:=λF σ H R m k=>by
 obtain⟨l,kvs,h1,h2,h3,D,C⟩:=m.dic i ds hi;refine⟨_,zO9 (l:=l) (kvs:=kvs) zf,h2,λo=>?_⟩;refine h F σ _ _ (m.fzk hi h1 h2) λd v H' q t kz r=>?_;obtain⟨g1,g2,g3,y⟩:=m.fzback hi h1 h2 t kz;obtain⟨g,xs,e1,c,B,s⟩:=r;have nl:g≠l:=λz=>by rw[z,zi]at c;cases c
 rw[zb nl]at c;refine⟨g1,k d v _ q.2 g2 g3 ⟨g,xs,e1,c,by rw[zb nl];exact B,s.noL (λx u A z=>?_) q.1⟩⟩;obtain⟨f,j⟩:=zc z;obtain⟨n,w⟩:=zc (y x u A (zA f.1 j));exact zA ⟨n,f.2⟩ w
theorem zG0 (i:Nat){ds:List (PyData×PyData)}{c:List Stmt}{E:xf}(hi:α[i]?=some (some (.dic ds)))(h:SvS X (α.set i (some (.dat (yT ds)))) c E):SvS X α c E:=λF σ H D m r=>by
 obtain⟨l,kvs,h1,h2,h3,f,d⟩:=m.dic i ds hi;exact⟨_,zF9 (l:=l) (kvs:=kvs) zV,h2,λo=>h F σ _ D (m.fzk hi h1 h2) r⟩
theorem zm9 (i:Nat){x:Str}{g:Expr}{ds:List (PyData×PyData)}{p1 p2:Pos}{rest:List Stmt}{E:xf}(C:X.A.units+1<cLine)(hi:α[i]?=some (some (.dic ds)))(h:EvD X α e λd=>EvD X α g λy=>∃k,y=xG k/\ds.length<1000/\SvS X (α.set i (some (.dic (putD ds k d)))) rest E)
  (z:X.N[i]?=some x:=by rfl) (s:Vis X.env.scope x:=by first|exact Or.inl rfl|exact Or.inr (Or.inl rfl)|exact Or.inr (Or.inr rfl)) (hd:(x == ("__debug__":Str))=false:=by decide) (f:(x == ("__classdict__":Str))=false:=by decide)
  (j:swapsWith e (some (.Subscript (.Name x p1) g p2)) pos.line X.env=pure false:=by rfl):
  SvS X α (.Assign [.Subscript (.Name x p1) g p2] e pos::rest) E:=λF σ H D m r=>by
 obtain⟨l,kvs,h1,h2,h3,o,J⟩:=m.dic i ds hi;refine⟨_,zI (ze3 C (xg z s hd f) zf zf j) zV,?_⟩;refine h F σ H _ m λd v H1 w t1 n I=>?_;have m1:=m.kz n t1;refine⟨.ref l,h1,?_⟩;refine w F σ H1 _ m1 λy L K B t c G=>?_;have m2:=m1.kz c t;obtain⟨k,rfl,u,q⟩:=B;cases tJ G;refine⟨l,_,rfl,dE.k (c _ _ (n _ _ h2 (m.tp.nt o)) (m.tp.nt o)) (by rw[h3.length];exact yw (z30 u)),?_⟩;exact q F σ _ D (m2.wrC hi h1 (.dk (((h3.same (n.gz m.tp)).same (c.gz m1.tp)).put (I.same (c.gz m1.tp))))) r
end
section
variable {X:Cx}{α:Ev}{e a b:Expr}{pos p:Pos}{Q:PyData->Prop}
theorem di (h:EvD X α a λy=>EvD X α b λd=>∃k,y=xG k/\Q (yT [(xG k,d)])):EvC X α (.Dict [some a] [b] pos) Q:=λF σ H R m C=>by
 refine⟨_,zo6 (eE zf zf zg5) rfl rfl (List.cons_ne_nil _ _) (by show 1<=15;decide),λl c=>?_⟩;have s0:zz H (upd H l (.dK [])):=ye c;have m0:=m.park (Kz.of_same s0) (m.tp.same s0) c zi (λ_ z=>by cases z);refine h _ σ _ _ m0 λy D H1 t t1 g B=>?_;have m1:=m0.kz g t1;refine t _ σ H1 _ m1 λd v j u s i w=>?_;obtain⟨k,rfl,q⟩:=u;cases tJ B;have nl:¬Ow F α σ l:=m.fresh c;have f:NT F l:=m.tp.nt (ow0 nl);have r:j l=some (.dK []):=i _ _ (g _ _ zi f) f;have A:zG F j:=m.tp.re s rfl;refine⟨r,[(k,v)],rfl,by show 1<=15;decide,?_⟩;refine C _ _ _ q (A.updO (ow0 nl) (rM r)) (λx o e n=>?_) ⟨l,_,rfl,c,zi,?_⟩
 ·have nx:x≠l:=λz=>by rw[z,c]at e;cases e
  rw[zb nx];exact i _ _ (g _ _ (s0 _ _ e) n) n
 ·refine yG.dk (kvs:=uA [] [(k,v)]) ?_;refine AVk.cons (w.same (zq λx o h e=>?_)) .nil;have nx:x≠l:=λz=>h (.inl (.inr z));exact⟨⟨λz=>h (z.elim (λz=>.inl (.inl z)) .inr),nx⟩,by rw[zb nx];exact e⟩
end
def epO (o:Obj):Nat:=match o.data with
 |.dict _ a=>a
 |_=>0
theorem Inv.fzAt {X:Cx}{pins:List (Addr×Obj)}{σ:St}{H:Hp}{s:Shared}{a:Addr}{o:Obj}{kvs:List (Key×V)}(I:Inv X pins σ H s)(h:H a=some (.frz o (.dK kvs))):
  kvs.length<=sizeLine/\(a == sysModules)=false/\∃vs,KV kvs vs/\s.heap.DictAt (zX X.prog X.w) a vs (epO o):=by
 obtain⟨c,z,y,vs,r,ob,f,d,e,j,b,i⟩:=(show zE X.prog X.w H s.heap a (.frz o (.dK kvs))from I.hok a _ h);rw[c]at e;cases e;have g:epO o=d:=by unfold epO;rw[b]
 rw[g];exact⟨z,y,vs,r,o,f,c,j,b,i⟩
theorem KV.at {kvs:List (Key×V)}{vs:List (Key×Value)}(r:KV kvs vs):∀{i:Nat}{k:Key}{v:V},kvs[i]?=some (k,v)->∃u,vs[i]?=some (k,u)/\RelV v u:=by
 unfold KV at r
 induction r with
 |nil=>intro i k v e;simp at e
 |@cons p q ps qs h t ih=>
  intro i k v e;cases i with
  |zero=>
   simp at e;subst e;refine⟨q.2,?_,h.2⟩;have h1:k=q.1:=h.1;rw[h1];rfl
  |succ i=>
   obtain⟨u,h1,h2⟩:=ih (i:=i) (by simpa using e);exact⟨u,by simpa using h1,h2⟩
theorem kU {P:Program}{w:World}{k:Key}{u:Value}(h:(zX P w).is k u=true):RelV (kV k) u:=by
 rcases zY (show sE k u=true from h)with⟨i,t,rfl,rfl⟩|⟨x,t,rfl,rfl⟩
 ·exact⟨t,rfl⟩
 ·exact⟨t,rfl⟩
def Itd (a:Addr)(o:Obj)(kvs:List (Key×V)):It:=⟨λi H=>H a=some (.frz o (.dK kvs))/\i<kvs.length,λi H x H'=>H'=H/\∃k v,kvs[i]?=some (k,v)/\x=kV k,λi H=>H a=some (.frz o (.dK kvs))/\kvs.length<=i⟩
def zO6 (a:Addr)(o:Obj)(kvs:List (Key×V)):It:=⟨λi H=>H a=some (.frz o (.dK kvs))/\i<kvs.length,λi H x H'=>H'=H/\∃k v,kvs[i]?=some (k,v)/\x=v,λi H=>H a=some (.frz o (.dK kvs))/\kvs.length<=i⟩
theorem gE {P:Program}{w:World}{K:PySem.W.Frag}{tg:Expr}(a it:Addr)(ob:Obj)(kvs:List (Key×V)):Turn P w K tg (Itd a ob kvs) [it] it (λi h=>h.IsKeyIter it a i kvs.length (epO ob)) where
 mem:=by simp
 obj:=λi h st b hb=>by
  have e:b=it:=by simpa using hb
  subst e;obtain⟨o,e,c,d⟩:=st;exact⟨o,e,λv z=>by rw[d]at z;cases z⟩
 keep:=λi h h' st k=>st.at λo e=>k it (by simp) o e
 item:=by
  intro X q hw j t i pins s σ H E I hf st hg;subst q hw j;obtain⟨hq,hi⟩:=hg;obtain⟨_,_,vs,rel,n⟩:=I.fzAt hq;have g:=rel.length;obtain⟨⟨k,v⟩,r⟩:∃p,kvs[i]?=some p:=⟨kvs[i],zX3 hi⟩;obtain⟨u,x,C⟩:=rel.at r;obtain⟨f0,f1,f2,l,f4,m⟩:=hf it (by simp);rw[g]at st ⊢;refine wpAny_pyNext_dict_item st n x λkey h' hk f y=>?_;have B:Inv X pins σ H {s with heap:=h'}:=I.turned (t':=s.toks) (λb o hb e=>(y.2 b hb).trans e) f0 f1 l f4 m;obtain⟨o,e,c,d⟩:=id f;exact⟨key,rfl,rR (s:={s with heap:=h'}) e c d (by decide) ⟨kV k,H,B,kU hk,⟨rfl,k,v,r,rfl⟩,f,λb hb=>(hf b hb).1⟩⟩
 done:=by
  intro X q hw j t i pins s σ H E I hf st hg;subst q hw j;obtain⟨hq,hi⟩:=hg;obtain⟨_,_,vs,rel,n⟩:=I.fzAt hq;have g:=rel.length;obtain⟨f0,f1,f2,l,f4,m⟩:=hf it (by simp);rw[g]at st;exact wpAny_pyNext_dict_end (I.ok.hd t) st n (z85 (zY1 (zZ3 g.symm) hi)) λh' A=>⟨rfl,I.turned (t':=s.toks) (λb o hb e=>A b o hb e) f0 f1 l f4 m⟩
 self:=λ_ _ _ _ _ st h=>wpAny_pyIter_keyiter st h
theorem fo {P:Program}{w:World}{K:PySem.W.Frag}{tg:Expr}(a it:Addr)(ob:Obj)(kvs:List (Key×V)):Turn P w K tg (zO6 a ob kvs) [it] it (λi h=>h.IsValIter it a i kvs.length (epO ob)) where
 mem:=by simp
 obj:=λi h st b hb=>by
  have e:b=it:=by simpa using hb
  subst e;obtain⟨o,e,c,d⟩:=st;exact⟨o,e,λv z=>by rw[d]at z;cases z⟩
 keep:=λi h h' st k=>st.at λo e=>k it (by simp) o e
 item:=by
  intro X q hw j t i pins s σ H E I hf st hg;subst q hw j;obtain⟨hq,hi⟩:=hg;obtain⟨_,_,vs,rel,n⟩:=I.fzAt hq;have g:=rel.length;obtain⟨⟨k,v⟩,r⟩:∃p,kvs[i]?=some p:=⟨kvs[i],zX3 hi⟩;obtain⟨u,y,x⟩:=rel.at r;obtain⟨f0,f1,f2,l,f4,m⟩:=hf it (by simp);rw[g]at st ⊢;refine wpAny_pyNext_values_item st n y λh' f A=>?_;have C:Inv X pins σ H {s with heap:=h'}:=I.turned (t':=s.toks) (λb o hb e=>(A.2 b hb).trans e) f0 f1 l f4 m;obtain⟨o,e,c,d⟩:=id f;exact⟨u,rfl,rR (s:={s with heap:=h'}) e c d (by decide) ⟨v,H,C,x,⟨rfl,k,v,r,rfl⟩,f,λb hb=>(hf b hb).1⟩⟩
 done:=by
  intro X q hw j t i pins s σ H E I hf st hg;subst q hw j;obtain⟨hq,hi⟩:=hg;obtain⟨_,_,vs,rel,n⟩:=I.fzAt hq;have g:=rel.length;obtain⟨f0,f1,f2,l,f4,m⟩:=hf it (by simp);rw[g]at st;exact wpAny_pyNext_values_end (I.ok.hd t) st n (z85 (zY1 (zZ3 g.symm) hi)) λh' B=>⟨rfl,I.turned (t':=s.toks) (λb o hb e=>B b o hb e) f0 f1 l f4 m⟩
 self:=λ_ _ _ _ _ st h=>wpAny_pyIter_valiter st h
section
variable {X:Cx}{tg:Expr}
theorem zm2 {l:Expr}{f:TE}(k:PE X l f):PI X tg l (λσ H R=>f σ H λx H1=>∃a o kvs,x=.ref a/\H1 a=some (.frz o (.dK kvs))/\R (Itd a o kvs) H1):=by
 intro pins s σ H R I h;refine thn (k pins s σ H _ I h) λv s1 d=>?_;obtain⟨x,H1,c,i,m⟩:=d;obtain⟨a,o,kvs,rfl,hq,q⟩:=m;cases i;obtain⟨_,g,vs,rel,j⟩:=c.fzAt hq;refine wpAny_pyIter_dict g j ?_;refine⟨s1.heap.objs.size,[s1.heap.objs.size],_,_,H1,rfl,c.kept (t':=s1.toks) λb o e=>zX2 _ e,gE a _ o kvs,⟨_,zY5 _ rfl,rfl,by rw[rel.length];rfl⟩,λb hb=>?_,q⟩;have e:b=s1.heap.objs.size:=by simpa using hb
 subst e;exact c.fpOk (zX7 _) (c.hok.fresh (zX7 _))
theorem ze9 {l:Expr}{n:TE}{apos c:Pos}(p:PE X l n)(f:attributeBase l "values" X.env (eval l X.env)=eval l X.env:=by rfl)(d:(apos.endLine == c.line)=true:=by rfl):
  PI X tg (.Call (.Attribute l "values" apos) [] [] c) (λσ H R=>n σ H λx H1=>∃a o kvs,x=.ref a/\H1 a=some (.frz o (.dK kvs))/\R (zO6 a o kvs) H1):=by
 intro pins s σ H R I h;refine wpAny_Call_method0_late f d (thn (p pins s σ H _ I h) λv s1 g=>?_);obtain⟨x,H1,j,u,r⟩:=g;obtain⟨a,o,kvs,rfl,hq,q⟩:=r;cases u;obtain⟨_,y,vs,rel,m⟩:=j.fzAt hq;obtain⟨k,t,_⟩:=zx7 j (.inl ⟨kvs,.inr ⟨o,hq⟩⟩);refine⟨"dict","dict.values",PySem.F.plainAttrs_dict,PySem.F.slot_dict_values,PySem.F.type_dict_values,k,t,Calls.callWith_builtin rfl (PySem.evalArgs_none ?_)⟩;refine call_meetsIn PySem.F.slot_dict_values k PySem.F.entry_dict_values (PySem.F.args_dict_values_1 _) (meets_dict_values (zX X.prog X.w) a y) ⟨⟨vs,m.dictOf⟩,?_⟩;have i:Inv X pins σ H1 {s1 with heap:=s1.heap.push {cls:=.type "dict_values",data:=.fields #[.ref a]}}:=j.kept (t':=s1.toks) λb o e=>zX2 _ e;refine wpAny_pyIter_values (v:=s1.heap.objs.size) ⟨_,zY5 _ rfl,rfl,rfl⟩ (m.push _) ?_;refine⟨(s1.heap.push {cls:=.type "dict_values",data:=.fields #[.ref a]}).objs.size,[(s1.heap.push {cls:=.type "dict_values",data:=.fields #[.ref a]}).objs.size],_,_,H1,rfl,i.kept (t':=s1.toks) λb o e=>zX2 _ e,fo a _ o kvs,⟨_,zY5 _ rfl,rfl,by rw[rel.length];rfl⟩,λb hb=>?_,q⟩;have e:b=(s1.heap.push {cls:=.type "dict_values",data:=.fields #[.ref a]}).objs.size:=by simpa using hb
 subst e;exact i.fpOk (zX7 _) (i.hok.fresh (zX7 _))
end
section
variable {X:Cx}{α:Ev}{e a b tg:Expr}{pos p:Pos}{Q:List PyData->Prop}
theorem zp0 (h:EvD X α e λx=>∃ds,x=yT ds/\Q (ds.map (·.1))):EvI X α tg e Q:=λF σ H R m k=>by
 refine⟨_,zm2 zf,?_⟩;refine h F σ H _ m λx B H1 n t1 r t=>?_;obtain⟨ds,rfl,q⟩:=n;obtain⟨a,o,kvs,rfl,g1,g2⟩:=t.dk_inv;refine⟨a,o,kvs,rfl,(zc g1).2,k _ _ H1 q t1 r λi A u s=>⟨λd hd=>?_,λc=>?_⟩⟩
 ·rw[zY3,zZ4]at hd;obtain⟨pr,j,rfl⟩:=hd;obtain⟨E,v,f,l,w⟩:=g2.at j;refine⟨⟨(zc (s _ _ g1)).2,(zX5.mp f).1⟩,λx C y=>?_⟩;obtain⟨rfl,z,D,g,rfl⟩:=y;rw[f]at g;cases g;refine⟨zz.refl _,λ_=>?_⟩;rw[l];exact ir _
 ·rw[zX0]at c;exact⟨(zc (s _ _ g1)).2,by rw[g2.length];exact c⟩
theorem ze0 {apos c:Pos}(h:EvD X α e λx=>∃ds,x=yT ds/\Q (ds.map (·.2)))(g:attributeBase e "values" X.env (eval e X.env)=eval e X.env:=by rfl)(f:(apos.endLine == c.line)=true:=by rfl):
  EvI X α tg (.Call (.Attribute e "values" apos) [] [] c) Q:=λF σ H R m k=>by
 refine⟨_,ze9 zf g f,?_⟩;refine h F σ H _ m λx E H1 u t1 w z=>?_;obtain⟨ds,rfl,q⟩:=u;obtain⟨a,o,kvs,rfl,g1,g2⟩:=z.dk_inv;refine⟨a,o,kvs,rfl,(zc g1).2,k _ _ H1 q t1 w λi D A s=>⟨λd hd=>?_,λj=>?_⟩⟩
 ·rw[zY3,zZ4]at hd;obtain⟨pr,t,rfl⟩:=hd;obtain⟨J,v,l,B,r⟩:=g2.at t;refine⟨⟨(zc (s _ _ g1)).2,(zX5.mp l).1⟩,λx G y=>?_⟩;obtain⟨rfl,C,I,n,rfl⟩:=y;rw[l]at n;cases n;exact⟨zz.refl _,λ_=>r.same s⟩
 ·rw[zX0]at j;exact⟨(zc (s _ _ g1)).2,by rw[g2.length];exact j⟩
theorem tY (A:X.calm=true):yE X (.type "list") (λxs H Q=>∃a o kvs,xs=[.ref a]/\H a=some (.frz o (.dK kvs))/\∀l,H l=none->Q (.ref l) (upd H l (.lst (kvs.map λp=>kV p.1)))):=by
 intro pins s σ H xs us Q I r h;obtain⟨a,o,kvs,rfl,hq,q⟩:=h;obtain⟨u,rfl,z⟩:=vals1 r;cases z;obtain⟨hz,B,vs,rel,n⟩:=I.fzAt hq;refine PySem.W.kdl_call (PySem.W.kdl_dict B) (I.ok.hd A) n (by rw[<-rel.length];exact hz) λh' tk c c' kp e it=>?_;refine⟨.ref s.heap.objs.size,_,I.laid (t':=tk) kp (zX7 _) (show zE X.prog X.w _ h' _ (.lst (kvs.map λp=>kV p.1))from⟨by rw[zX0];exact hz,c.toList,c',?_,by simpa using e⟩),rfl,q _ (I.hok.fresh (zX7 _))⟩;have key:∀{as:List V} {bs:List Value},as.length=bs.length->(∀(j:Nat) x,as[j]?=some x->∃u,bs[j]?=some u/\RelV x u)->Vals as bs:=by
  intro as
  induction as with
  |nil=>intro bs h1 _;cases bs with|nil=>exact .nil|cons _ _=>simp at h1
  |cons x as t=>
   intro bs h1 h2;cases bs with
   |nil=>simp at h1
   |cons y bs=>
    obtain⟨u,d,g⟩:=h2 0 x rfl;simp at d;subst d;exact .cons g (t (by simpa using h1) λj i f=>by simpa using h2 (j+1) i (by simpa using f))
 refine key (by rw[zX0,rel.length,yc0];exact it.1.symm) λj x f=>?_;rw[zY3,zZ4]at f;obtain⟨⟨k,v⟩,h1,rfl⟩:=f;obtain⟨C,h2,_⟩:=rel.at h1;have m:j<c.size:=by rw[it.1];exact(zX5.mp h2).1
 obtain⟨D,i,d,g⟩:=it.2 j c[j] (by simp[m]);rw[h2]at d;cases d;exact⟨c[j],by simp[m],kU g⟩
theorem ar {H G:Hp}{kvs:List (Key×V)}{ds:List (PyData×PyData)}(h:AVk H kvs ds):AVs G (kvs.map λp=>kV p.1) (ds.map (·.1)):=by
 induction h using AVk.ind with
 |nil=>exact .nil
 |cons _ _ c=>exact .cons (ir _) c
theorem dZ (r:X.calm=true)(hg:Gl X "list")(hm:X.mg "list"=none)(h:EvD X α e λx=>∃ds,x=yT ds/\Q (ds.map (·.1)))(he:starEach [e] X.env=(false,eval e X.env)::starEach [] X.env:=by rfl):
  EvL X α (.Call (.Name "list" p) [e] [] pos) Q:=λF σ H R m k=>by
 refine⟨_,yF (tY r) hg hm boot_list (zr zf zD he) (he:=he),?_⟩;refine h F σ H _ m λx s H1 n t1 c j=>?_;obtain⟨ds,rfl,q⟩:=n;have m1:=m.kz c t1;obtain⟨a,o,kvs,rfl,g1,g2⟩:=j.dk_inv;refine⟨a,o,kvs,rfl,(zc g1).2,λl i=>?_⟩;obtain⟨g,f,d⟩:=m1.lay i (ar (G:=Gz F α σ H1) g2);exact k _ _ _ q g (c.trans f) (d.back m c t1)
end
mutual
def ltD :PyData->PyData->Option Bool
 |.int a,.int b=>some (decide (a<b))
 |.str a,.str b=>some (decide (a.cps.toList<b.cps.toList))
 |.tuple xs,.tuple ys=>mY xs ys
 |_,_=>none
def mY :List PyData->List PyData->Option Bool
 |[],[]=>some false
 |[],_::_=>some true
 |_::_,[]=>some false
 |x::xs,y::ys=>if PyData.eqv x y=true then mY xs ys else ltD x y
end
def zA2 (A:Around)(s:Shared)(x y:PyData):Prop:=∀(v u:Value) (as bs:List Addr) (r:Bool),Reads s.heap v x as->Reads s.heap u y bs->x.canLay0=true->y.canLay0=true->ltD x y=some r->
 ∀(prog:Program) (w:World) (E:Value->Shared->Prop) (Q:Value->Shared->Prop),Q (.bool r) s->wpAny (model prog w) A (richCompare .Lt v u) Q E s
section
open PySem.SeqAt
open PySem.AutoSeq1 (wpAny_loadPart')
open PySem.MeetsSeq PySem.MeetsSeq2 PySem.MeetsSeq3
theorem zH5 (l b:Addr)(items c:Array Value)(n n2:Nat)(Y J:Option Addr)(sl K:Array (Option Value))(xs ys:List PyData)(z:Bool)(G:mY xs ys=some z)(hcx:PyData.canLayAll0 xs=true)(hcy:PyData.canLayAll0 ys=true):
  Meets (Builtin.«tuple.__lt__» ⟨[.ref l,.ref b],[]⟩)
   (λA R s=>s.heap.get? l=some {cls:=.type "tuple",dict:=Y,data:=.seq items n,slots:=sl}/\s.heap.get? b=some {cls:=.type "tuple",dict:=J,data:=.seq c n2,slots:=K}/\
    (∃as bs,ReadsAll s.heap items.toList xs as/\ReadsAll s.heap c.toList ys bs)/\A.units+1+PyData.depthAll xs<cLine/\(∀x∈xs,∀y,zA2 A.in1 s x y)/\R (.ok (.ret (.bool z))) s):=
 .of_wp λprog w A R s h=>by
  obtain⟨H,g,d,tk,os⟩:=s;obtain⟨X,hb,⟨as,bs,M,T⟩,P,F,h⟩:=h;have f2:=AutoSeq1.sub_tuple_tuple;have S:items.size=xs.length:=by simpa using SeqAt.ReadsAll.length _ _ _ M
  have z2:c.size=ys.length:=by simpa using SeqAt.ReadsAll.length _ _ _ T
  wp_walk using yf3 X,yf3 hb,wpAny_forIn_list _ (λrest b s'=>b.1=none/\s'=⟨H,g,d,tk,os⟩/\∃(vs ws:List Value) (f i:List PyData) (r p:List Addr),rest=vs.zip ws/\
   ReadsAll H vs f r/\ReadsAll H ws i p/\f.length+c.size=i.length+items.size/\mY f i=some z/\PyData.canLayAll0 f=true/\PyData.canLayAll0 i=true/\(∀x∈f,x∈xs)) _
  case turn=>
   rintro⟨y,x⟩ rest b s' ⟨q,rfl,vs,ws,f,i,r,p,hz,O,I,hlen,k,t,B,j⟩;cases O with
   |nil=>rw[List.zip_nil_left]at hz;cases hz
   |@cons v vs' d0 ds0 a1 a2 p1 C=>
    cases I with
    |nil=>rw[List.zip_nil_right]at hz;cases hz
    |@cons u us' e0 es0 U W p2 o=>
     rw[List.zip_cons_cons]at hz;injection hz with N m;injection N with hy D;subst hy D;simp only[PyData.canLayAll0,z24]at t B;have hd:d0.depth<=PyData.depthAll xs:=by
      have hm:=j d0 zX9;clear F j h M G hcx S
      induction xs with
      |nil=>cases hm
      |cons a as Z=>
       simp only[PyData.depthAll];rcases zX6.mp hm with rfl|hm
       ·exact Nat.le_max_left _ _
       ·refine zY1 (Z ?_ hm) (Nat.le_max_right _ _);simp only[PyData.depthAll]at P;have:=Nat.le_max_right a.depth (PyData.depthAll as);exact zr2 P
     have hm:min d0.depth e0.depth<=d0.depth:=Nat.min_le_left _ _;have he:=SeqAt.eqAt_reads d0 e0 A.in1 ⟨H,g,d,tk,os⟩ _ _ _ _ p1 p2 t.1 B.1 (by show A.units+1+min d0.depth e0.depth<cLine;lia);simp only[zY7]at hlen;unfold mY at k;refine zX1 (he prog w _ _ ?_);cases e:PyData.eqv d0 e0 with
     |true=>
      rw[e,if_pos rfl]at k
      wp_walk
      exact⟨rfl,rfl,_,_,_,_,_,_,m,C,o,(zP2 hlen),k,t.2,B.2,λx D=>j x (zX8 _ D)⟩
     |false=>
      rw[e,if_neg (by decide)]at k;have L:=λE Q hq=>F d0 (j d0 zX9) e0 _ _ _ _ z p1 p2 t.1 B.1 k prog w E Q hq
      wp_walk using L
      exact⟨_,rfl,by simpa using h⟩
  case fin=>
   rintro⟨U,W⟩ s' ⟨q,rfl,vs,ws,f,i,r,p,hz,O,I,hlen,k,t,B,j⟩;simp only at q;subst q;have V:z=decide (items.size<c.size):=by
    cases O with
    |nil=>
     cases I with
     |nil=>
      cases k;simp only[z95]at hlen;exact(zZ7 (zK5 hlen)).symm
     |cons p2 o=>
      cases k;simp only[z95,zY7]at hlen;exact(z02 (zL4 hlen)).symm
    |cons p1 C=>
     cases I with
     |nil=>
      cases k;simp only[z95,zY7]at hlen;exact(zZ7 (zN2 hlen)).symm
     |cons p2 o=>
      rw[List.zip_cons_cons]at hz;cases hz
   rw[V]at h
   wp_walk
   exact⟨_,rfl,by simpa[Builtin.Tuple.tupleCompareSizes]using h⟩
  case h=>
   exact⟨rfl,rfl,items.toList,c.toList,xs,ys,as,bs,rfl,M,T,(zN5 S z2),G,hcx,hcy,λx D=>D⟩
end
mutual
theorem qP :∀(d:PyData) (e:PyData) (A:Around) (s:Shared),A.units+d.depth<cLine->zA2 A s d e
 |.int a,e,A,s,g=>λv u as bs r f c _ _ h prog w E Q q=>by
  cases e with
  |int b=>
   cases h;cases f;cases c;exact(PyProof.Rows.lt_int q:wpAny (model prog w) A (compareOp .Lt _ _) Q E s)
  |_=>cases h
 |.str a,e,A,s,g=>λv u as bs r f c _ _ h prog w E Q q=>by
  cases e with
  |str b=>
   cases h;cases f;cases c;exact(lt_str q:wpAny (model prog w) A (compareOp .Lt _ _) Q E s)
  |_=>cases h
 |.tuple xs,e,A,s,g=>λv u as bs r f c o m h prog w E Q q=>by
  cases e with
  |tuple ys=>
   cases f with
   |@tuple a1 o1 vs n1 _ _ g1 g2 g3 g4=>
    cases c with
    |@tuple a2 o2 ws n2 _ _ k1 k2 k3 k4=>
     obtain⟨cls,n,data,sl⟩:=o1;obtain⟨l,j,data2,k⟩:=o2;simp only at g2 g3 k2 k3;subst g2 g3 k2 k3;have i:A.units+1+PyData.depthAll xs<cLine:=by
      simp only[PyData.depth]at g
      lia
     exact richCompare_meets_room (op:=.Lt) ⟨_,g1,rfl⟩ ⟨_,k1,rfl⟩ PySem.F.slot_tuple_lt PySem.F.entry_tuple_lt (PySem.F.args_tuple_lt_2 _ _) (zH5 a1 a2 vs ws n1 n2 n j sl k xs ys r h (by simpa only[PyData.canLay0]using o) (by simpa only[PyData.canLay0]using m))
      ⟨g1,k1,⟨_,_,g4,k4⟩,i,ma xs A.in1 s (show A.units+1+PyData.depthAll xs<cLine from i),show Value.bool r≠Value.notImplemented/\Q (.bool r) s from⟨(λx=>nomatch x),q⟩⟩ (zZ5 (zY8 _ _) g)
  |_=>cases h
 |.none,e,A,s,g=>λv u as bs r f c _ _ h=>by cases e<;>cases h
 |.bool _,e,A,s,g=>λv u as bs r f c _ _ h=>by cases e<;>cases h
 |.list _,e,A,s,g=>λv u as bs r f c _ _ h=>by cases e<;>cases h
 |.dict _,e,A,s,g=>λv u as bs r f c _ _ h=>by cases e<;>cases h
theorem ma :∀(xs:List PyData) (A:Around) (s:Shared),A.units+PyData.depthAll xs<cLine->∀x∈xs,∀y,zA2 A s x y
 |[],A,s,a=>λx b=>by cases b
 |d::ds,A,s,a=>λx b y=>by
  simp only[PyData.depthAll]at a;have h1:=Nat.le_max_left d.depth (PyData.depthAll ds);have h2:=Nat.le_max_right d.depth (PyData.depthAll ds);by_cases e:x=d
  ·rw[e];exact qP d y A s (by lia)
  ·exact ma ds A s (zr2 a) x ((zX6.mp b).resolve_left e) y
end
section
variable {prog:Program}{w:World}{A:Around}{R:Result->Shared->Prop}{it:Addr}{fp wr:List Addr}{m:Nat}{P:Nat->Value->Prop}{St:Nat->Heap->Prop}
def sx (h0 h:Heap):Prop:=∀b o,h0.get? b=some o->h.get? b=some o
def zC4 (prog:Program)(w:World)(A:Around)(h0:Heap)(P:Nat->Value->Prop)(bt:Nat->Nat->Bool):Prop:=
 ∀i j x y (s:Shared) (Q:Value->Shared->Prop) (E:Value->Shared->Prop),P i x->P j y->sx h0 s.heap->Q (.bool (bt i j)) s->wpAny (model prog w) A (richCompare .Lt x y) Q E s
theorem fq (h0:Heap)(W:Walks prog w A.in1 it fp wr m P St)(bt:Nat->Nat->Bool)(C:zC4 prog w A.in1 h0 P bt)(D:Addr)(v:D∉fp)(p:h0.get? D=none)(r:∀b∈wr,h0.get? b=none):
  ∀(k j:Nat) (s:Shared) (x:Value) (c:Nat),m-(j+1)=k->j+1<=m->St (j+1) s.heap->sx h0 s.heap->P (argBest bt j) x->
  s.heap.get? D=some {cls:=.type "list",dict:=none,data:=.seq #[x,x] c,slots:=#[]}->
  (∀y h' tk,P (argBest bt (m-1)) y->(∀b o,b∉wr->b≠D->s.heap.get? b=some o->h'.get? b=some o)->R (.ok (.ret y)) {s with heap:=h',toks:=tk})->
  codeAny (model prog w) A (.builtin "min.loop" ⟨[.ref it,.none,.ref D],[]⟩) R s:=by
 have h:D∉wr:=λq=>v (W.sub _ q);have nm:(toString "min"++toString ".loop":String)="min.loop":=by decide
 intro k;induction k with
 |zero=>
  intro j s x c hk u st kp px i n;have e:j+1=m:=(zr4 hk u);refine yc5 ye2 ?_;rw[z90 z51 _];show wpAny _ A.in1 (seqItems? (.ref D) >>= _) _ _ s;refine zX1 (z45 i rfl ?_);show wpAny _ A.in1 (tryCatch (pyNext (.ref it)) _ >>= _) _ _ s;refine zX1 (wpAny_tryCatch (W.done s _ _ (e▸st) λh' tk g=>?_));have a:=g D _ h i;show wpAny _ A.in1 (updateSeq D (λ_=>#[]) >>= _) _ _ _;refine zX1 (z62 a rfl (zX1 (z78 (zY6 ?_))));exact n x _ tk (by rw[<-e];exact px) λb o h1 h2 q=>(z01 _ _ (z09 h2)).trans (g b o h1 q)
 |succ k B=>
  intro j s x c hk u st kp px i n;have lt:j+1<m:=(zv6 hk);refine yc5 ye2 ?_;rw[z90 z51 _];show wpAny _ A.in1 (seqItems? (.ref D) >>= _) _ _ s;refine zX1 (z45 i rfl ?_);show wpAny _ A.in1 (tryCatch (pyNext (.ref it)) _ >>= _) _ _ s;refine zX1 (wpAny_tryCatch (W.item (j+1) s _ _ lt st λy h' tk py l g=>?_));have a:=g D _ h i;have f:sx h0 h':=λb o q=>g b o (λz=>by rw[r b z]at q;cases q) (kp b o q);show wpAny _ A.in1 (tryCatch (holding [y,y] (richCompare .Lt y x >>= _)) _ >>= _) _ _ _;refine zX1 (wpAny_tryCatch (z43 (zX1 (C (j+1) (argBest bt j) y x _ _ _ py px f ?_))));refine zX1 (z43 (z28 (zX1 (z78 (zY6 ?_)))));cases hb:bt (j+1) (argBest bt j)with
  |true=>
   simp only[z92];refine zX1 (z62 a rfl (zX1 (z78 ?_)));rw[nm];refine zY6 ⟨z88 z51 _,B (j+1) _ y _ (cF hk) lt (W.frame _ _ _ l λb hf o q=>?_) (λb o q=>?_) (by simp only[argBest,hb,z92];exact py) (ya4 _ a rfl) λz h2 d t kz=>?_⟩
   ·exact(z01 _ _ (λz:D=b=>v (by rw[z];exact hf))).trans q
   ·exact(z01 _ _ (λz:D=b=>by rw[<-z,p]at q;cases q)).trans (f b o q)
   ·exact n z h2 d t λb o h1 h3 q=>kz b o h1 h3 ((z01 _ _ (z09 h3)).trans (g b o h1 q))
  |false=>
   simp only[z25,z65];refine zX1 (z78 ?_);rw[nm];refine zY6 ⟨z88 z51 _,B (j+1) _ x c (cF hk) lt l f (by simp only[argBest,hb,z25,z65];exact px) a λz h2 d t kz=>?_⟩;exact n z h2 d t λb o h1 h3 q=>kz b o h1 h3 (g b o h1 q)
theorem mZ (h0:Heap)(W:Walks prog w A.in1 it fp wr m P St)(bt:Nat->Nat->Bool)(p:zC4 prog w A.in1 h0 P bt)(D:Addr)(i:D∉fp)(a:h0.get? D=none)(d:∀b∈wr,h0.get? b=none)(hm:0<m){s:Shared}{c:Nat}(st:St 0 s.heap)(kp:sx h0 s.heap)
  (l:s.heap.get? D=some {cls:=.type "list",dict:=none,data:=.seq #[] c,slots:=#[]})
  (r:∀y h' tk,P (argBest bt (m-1)) y->(∀b o,b∉wr->b≠D->s.heap.get? b=some o->h'.get? b=some o)->R (.ok (.ret y)) {s with heap:=h',toks:=tk}):
  codeAny (model prog w) A (.builtin "min.loop" ⟨[.ref it,.none,.ref D],[]⟩) R s:=by
 have h:D∉wr:=λq=>i (W.sub _ q);have nm:(toString "min"++toString ".loop":String)="min.loop":=by decide
 refine yc5 ye2 ?_;rw[z90 z51 _];show wpAny _ A.in1 (seqItems? (.ref D) >>= _) _ _ s;refine zX1 (z45 l rfl ?_);show wpAny _ A.in1 (tryCatch (pyNext (.ref it)) _ >>= _) _ _ s;refine zX1 (wpAny_tryCatch (W.item 0 s _ _ hm st λy h' tk py j k=>?_));have e:=k D _ h l;have g:sx h0 h':=λb o q=>k b o (λz=>by rw[d b z]at q;cases q) (kp b o q);show wpAny _ A.in1 (updateSeq D (λ_=>#[y,y]) >>= _) _ _ _;refine zX1 (z62 e rfl ?_);rw[nm];refine zY6 ⟨z88 z51 _,fq h0 W bt p D i a d _ 0 _ y _ rfl hm (W.frame _ _ _ j λb hf o q=>?_) (λb o q=>?_) py (ya4 _ e rfl) λz h2 f n kz=>?_⟩
 ·exact(z01 _ _ (λz:D=b=>i (by rw[z];exact hf))).trans q
 ·exact(z01 _ _ (λz:D=b=>by rw[<-z,a]at q;cases q)).trans (g b o q)
 ·exact r z h2 f n λb o h1 h3 q=>kz b o h1 h3 ((z01 _ _ (z09 h3)).trans (k b o h1 q))
end
section
variable {prog:Program}{w:World}{A:Around}{E:Value->Shared->Prop}{s:Shared}
theorem fH {l:Addr}{items:Array Value}{bt:Nat->Nat->Bool}{Q:Value->Shared->Prop}(d:A.handled=none)(c:s.heap.IsList l items)(h0:0<items.size)(g:zC4 prog w A.in1 s.heap (λi v=>items[i]?=some v) bt)
  (f:∀v h' tk,items[argBest bt (items.size-1)]?=some v->sx s.heap h'->Q v {s with heap:=h',toks:=tk}):wpAny (model prog w) A (call (.builtin "min") [.ref l]) Q E s:=by
 have nm:(toString "min"++toString ".loop":String)="min.loop":=by decide
 have a:l<s.heap.objs.size:=by obtain⟨_,e,_⟩:=c;exact zY4 e
 refine call_function_tree PySem.F.kind_min PySem.F.plain_min PySem.F.entry_min (PySem.F.args_min1 _) ?_;show wpAny _ A.in1 (Builtin.Builtins.bindParams "min" ["key","default"] 0 ⟨[],[]⟩ >>= _) _ _ s;refine zX1 (wpAny_of_eq (show Builtin.Builtins.bindParams "min" ["key","default"] 0 ⟨[],[]⟩=pure [none,none]from rfl) (zX1 (zY6 ?_)));refine zX1 (z60 c ?_);refine zX1 (wpAny_newObj_type ?_);rw[nm];have W:=Walks.list (prog:=prog) (w:=w) (A:=A.in1) d s.heap.objs.size l (zZ6 a) items;have up:sx s.heap ((s.heap.push {cls:=.type "list_iterator",data:=.fields #[.ref l,.int 0 0]}).push {cls:=.type "list",data:=.seq #[]}):=λb o e=>zX2 _ (zX2 _ e);have sz:(s.heap.push {cls:=.type "list_iterator",data:=.fields #[.ref l,.int 0 0]}).objs.size=s.heap.objs.size+1:=z44 _ _;refine zY6 ⟨z88 z51 _,mZ s.heap W bt g _ (λq=>?_) (Heap.get?_none_of_le (by rw[sz];exact z76 _)) (λb hb=>?_) h0 (W.frame 0 (s.heap.push {cls:=.type "list_iterator",data:=.fields #[.ref l,.int 0 0]}) _ ⟨⟨_,zY5 _ rfl,rfl,rfl⟩,c.push _⟩ λb _ o e=>zX2 _ e) up (zY5 _ rfl) λv h' tk pv h=>?_⟩
 ·rcases zX6.mp q with z|z
  ·rw[sz]at z;exact absurd z (Nat.succ_ne_self _)
  ·rw[zY0,sz]at z;exact absurd a (by rw[<-z];exact Nat.not_lt.mpr (z76 _))
 ·rw[zY0.mp hb];exact Heap.get?_none_of_le (zX7 _)
 ·refine f v h' tk pv λb o e=>h b o (λz=>?_) (λz=>?_) (up b o e)
  ·rw[zY0.mp z]at e;exact absurd (zY4 e) (z26 _)
  ·have:=zY4 e;rw[z,sz]at this;exact absurd this (Nat.not_lt.mpr (z76 _))
end
def ud (ds:List PyData)(i j:Nat):Bool:=match ds[i]?,ds[j]? with
 |some x,some y=>(ltD x y).getD false
 |_,_=>false
def minD :List PyData->PyData
 |[]=>.none
 |d::ds=>ds.foldl (λb x=>if(ltD x b).getD false=true then x else b) d
theorem mN (d:PyData)(ds:List PyData)(x:PyData):minD (d::(ds++[x]))=if(ltD x (minD (d::ds))).getD false=true then x else minD (d::ds):=by
 show List.foldl _ d (ds++[x])=_;rw[List.foldl_append];rfl
theorem md {ds:List PyData}{i j:Nat}{x y:PyData}(h1:ds[i]?=some x)(h2:ds[j]?=some y):ud ds i j=(ltD x y).getD false:=by
 unfold ud;rw[h1,h2]
theorem dN (ds:List PyData):∀k,k<ds.length->ds[argBest (ud ds) k]?=some (minD (ds.take (k+1))):=by
 intro k
 induction k with
 |zero=>
  intro h;cases ds with
  |nil=>simp at h
  |cons d ds=>simp[argBest,minD]
 |succ k f=>
  intro h;have a:=f (zZ5 (zY8 _ _) h);cases ds with
  |nil=>simp at h
  |cons d ds=>
   have c:(d::ds)[k+1]?=some (d::ds)[k+1]:=zX3 h;have tk:(d::ds).take (k+1+1)=d::(ds.take k++[(d::ds)[k+1]]):=by
    have hk:k<ds.length:=by simpa using h
    rw[yc2,z42,zX3 hk];rfl
   have b:(d::ds).take (k+1)=d::ds.take k:=yc2;rw[tk,mN,<-b];have e:ud (d::ds) (k+1) (argBest (ud (d::ds)) k)=(ltD (d::ds)[k+1] (minD ((d::ds).take (k+1)))).getD false:=md c a;simp only[argBest];rw[e];split
   ·exact c
   ·exact a
theorem uy {X:Cx}{pins:List (Addr×Obj)}{σ:St}{H:Hp}{s:Shared}(I:Inv X pins σ H s):∀{xs:List V}{ds:List PyData}{us:List Value}{i:Nat}{d:PyData},DVs H xs ds->Vals xs us->ds[i]?=some d->∃u as,us[i]?=some u/\Reads s.heap u d as
 |_,_,_,_,_,.nil,_,e=>by simp at e
 |_,_,_,i,d,.cons hx hs,.cons (b:=u) ru rs,e=>by
  cases i with
  |zero=>
   simp at e;subst e;obtain⟨as,a⟩:=hx.reads I ru;exact⟨u,as,rfl,a⟩
  |succ i=>
   obtain⟨c,as,h1,h2⟩:=uy I hs rs (i:=i) (by simpa using e);exact⟨c,as,by simpa using h1,h2⟩
def zG9 (ds:List PyData):Prop:=∀x∈ds,∀y∈ds,(ltD x y).isSome=true
section
variable {X:Cx}{α:Ev}{e:Expr}{pos p:Pos}{Q:PyData->Prop}
theorem gU (P:X.calm=true)(T:X.A.units+70<cLine):yE X (.builtin "min") (λxs H Q=>∃(l:Addr) (vs:List V) (ds:List PyData),xs=[.ref l]/\H l=some (.lst vs)/\DVs H vs ds/\ds≠[]/\zG9 ds/\(∀d∈ds,d.canLay0=true/\d.depth<=60)/\∀(i:Nat) (v:V),vs[i]?=some v->ds[i]?=some (minD ds)->Q v H):=by
 intro pins s σ H xs us Q I r h;obtain⟨l,vs,ds,rfl,E,dv,ne,L,z,q⟩:=h;obtain⟨u,rfl,O⟩:=vals1 r;cases O;obtain⟨a,c,pl,hz⟩:=I.list (SqL.of E);have l1:=c.length;have l2:vs.length=ds.length:=dv.length;have h0:0<ds.length:=List.length_pos_iff.mpr ne;refine fH (bt:=ud ds) (I.ok.hd P) pl.isList (by simp;exact zX4 h0 (zZ3 (Eq.trans l2.symm l1))) ?_ λv h' tk n kp=>?_
 ·intro i j x y s2 U R B hy kp K;have hi:i<ds.length:=by have:=(yb7.mp B).1;simp at this;exact zX4 this (zZ3 (Eq.trans l1.symm l2))
  have k:j<ds.length:=by have:=(yb7.mp hy).1;simp at this;exact zX4 this (zZ3 (Eq.trans l1.symm l2))
  have o:ds[i]?=some ds[i]:=zX3 hi;have t:ds[j]?=some ds[j]:=zX3 k;obtain⟨J,F,g1,g2⟩:=uy I dv c o;obtain⟨C,D,g3,G⟩:=uy I dv c t;have e1:J=x:=by have:=B;simp at this;rw[g1]at this;exact z00 this
  have N:C=y:=by have:=hy;simp at this;rw[g3]at this;exact z00 this
  subst e1 N;obtain⟨w,b⟩:=Option.isSome_iff_exists.mp (L _ (z57 hi) _ (z57 k));have g:=z _ (z57 hi);have m:=z _ (z57 k);refine qP ds[i] ds[j] X.A.in1 s2 (by show X.A.units+1+_<cLine;lia) _ _ _ _ w (Reads.keeps kp g2) (Reads.keeps kp G) g.1 m.1 b _ _ _ _ ?_;have:ud ds i j=w:=by rw[md o t,b];rfl
  rw[<-this];exact K
 ·have hb:=dN ds (ds.length-1) (rh h0);have M:a.toArray.size-1=ds.length-1:=by simp;lia
  rw[M]at n;rw[show ds.length-1+1=ds.length by omega,z58]at hb;have f:a[argBest (ud ds) (ds.length-1)]?=some v:=by simpa using n
  have hi:argBest (ud ds) (ds.length-1)<vs.length:=by have:=(zX5.mp hb).1;exact zX4 this (zZ3 l2.symm)
  obtain⟨S,g1,g2⟩:=c.get (zX3 hi);rw[f]at g1;cases g1;exact⟨_,H,I.kept (t':=tk) kp,g2,q _ _ (zX3 hi) hb⟩
theorem zi6 (n:X.calm=true)(g:X.A.units+70<cLine)(hg:Gl X "min")(hm:X.mg "min"=none)(h:EvD X α e λx=>∃ds,x=.list ds/\ds≠[]/\PyData.hasDictAll ds=false/\zG9 ds/\(∀d∈ds,d.canLay0=true/\d.depth<=60)/\Q (minD ds))(he:starEach [e] X.env=(false,eval e X.env)::starEach [] X.env:=by rfl):
  EvD X α (.Call (.Name "min" p) [e] [] pos) Q:=by
 refine xD (gU n g) hg hm boot_min (zm (h.imp λx b=>?_) he) (he:=he);obtain⟨ds,e1,ne,nd,j,f,q⟩:=b;refine zx ?_;intro F σ H vs R m l k;subst e1;obtain⟨v,rfl,av⟩:=l.one;obtain⟨a,xs,rfl,h1,h2⟩:=av.lst_inv;refine⟨a,xs,ds,rfl,(zc h1).2,(h2.dv nd).same xy,ne,j,f,λi v c hd=>?_⟩;obtain⟨o,g1,g2⟩:=h2.get hd;rw[c]at g1;cases g1;exact k _ _ H q m.tp Kz.refl g2
def ua :List Int->Int
 |[]=>0
 |z::zs=>zs.foldl (λb x=>if b<x then x else b) z
theorem fN (d:Int)(ds:List Int)(x:Int):ua (d::(ds++[x]))=if ua (d::ds)<x then x else ua (d::ds):=by
 show List.foldl _ d (ds++[x])=_;rw[List.foldl_append];rfl
def fj (zs:List Int)(i j:Nat):Bool:=decide (zs.getD i 0 > zs.getD j 0)
theorem ze7 {zs:List Int}{i j:Nat}{x y:Int}(h1:zs[i]?=some x)(h2:zs[j]?=some y):fj zs i j=decide (y<x):=by
 unfold fj;rw[zY2,zY2,h1,h2];rfl
theorem dX (zs:List Int):∀k,k<zs.length->zs[argBest (fj zs) k]?=some (ua (zs.take (k+1))):=by
 intro k
 induction k with
 |zero=>
  intro h;cases zs with
  |nil=>simp at h
  |cons d ds=>simp[argBest,ua]
 |succ k f=>
  intro h;have a:=f (zZ5 (zY8 _ _) h);cases zs with
  |nil=>simp at h
  |cons d ds=>
   have c:(d::ds)[k+1]?=some (d::ds)[k+1]:=zX3 h;have tk:(d::ds).take (k+1+1)=d::(ds.take k++[(d::ds)[k+1]]):=by
    have hk:k<ds.length:=by simpa using h
    rw[yc2,z42,zX3 hk];rfl
   have b:(d::ds).take (k+1)=d::ds.take k:=yc2;rw[tk,fN,<-b];have e:fj (d::ds) (k+1) (argBest (fj (d::ds)) k)=decide (ua ((d::ds).take (k+1))<(d::ds)[k+1]):=ze7 c a;simp only[argBest];rw[e];by_cases z:ua ((d::ds).take (k+1))<(d::ds)[k+1]
   ·rw[z02 z,if_pos rfl,if_pos z];exact c
   ·rw[zZ7 z,if_neg (by decide),if_neg z];exact a
theorem fi (w:X.calm=true):yE X (.builtin "max") (λxs H Q=>∃(l:Addr) (zs:List Int),xs=[.ref l]/\H l=some (.lst (zs.map V.int))/\zs≠[]/\Q (.int (ua zs)) H):=by
 intro pins s σ H xs us Q I r h;obtain⟨l,zs,rfl,j,ne,q⟩:=h;obtain⟨u,rfl,n⟩:=vals1 r;cases n;obtain⟨a,g,pl,hz⟩:=I.list (SqL.of j);have l1:=g.length;rw[zX0]at l1;have h0:0<zs.length:=List.length_pos_iff.mpr ne;have d:l<s.heap.objs.size:=by obtain⟨_,e,_⟩:=pl.isList;exact zY4 e
 have val:∀i v,a.toArray[i]?=some v->∃t,v=Value.int (zs.getD i 0) t:=λi v f=>by
  have c:a[i]?=some v:=by simpa using f
  have hi:i<(zs.map V.int).length:=by rw[zX0,l1];exact(zX5.mp c).1
  obtain⟨x,g1,g2⟩:=g.get (zX3 hi);rw[c]at g1;cases g1;rw[List.getElem_map]at g2;obtain⟨t,rfl⟩:=g2;refine⟨t,?_⟩;rw[zX0]at hi;rw[zY2,zX3 hi];rfl
 refine call_max_walk (z60 pl.isList ⟨s.heap.objs.size,[s.heap.objs.size,l],[s.heap.objs.size],_,_,_,fj zs,rfl,Walks.list (A:=X.A.in1) (I.ok.hd w) s.heap.objs.size l (zZ6 d) a.toArray,⟨⟨_,zY5 _ rfl,rfl,rfl⟩,pl.isList.push _⟩,λb hb=>?_,by simp;exact zX4 h0 (zZ3 l1),CmpOf.ints_gt (λi=>zs.getD i 0) val,λv h' tk f k=>?_⟩)
 ·show b<(s.heap.push _).objs.size;rw[z44];rcases zX6.mp hb with z|z
  ·rw[z];exact z34 _
  ·rw[zY0.mp z];exact ye0 d
 ·obtain⟨t,rfl⟩:=val _ _ f;have hb:=dX zs (zs.length-1) (rh h0);rw[show zs.length-1+1=zs.length by omega,z58]at hb;have m:a.toArray.size-1=zs.length-1:=by simp;lia
  rw[m];refine⟨.int (ua zs),H,I.kept (t':=tk) (λb o e=>k b o (λz=>?_) (zX2 _ e)),⟨t,?_⟩,q⟩
  ·rw[zY0.mp z]at e;exact absurd (zY4 e) (z26 _)
  ·rw[zY2,hb];rfl
theorem AVs.intsV {H:Hp}{xs:List V}{zs:List Int}(h:AVs H xs (zs.map .int)):xs=zs.map V.int:=by
 induction zs generalizing xs with
 |nil=>cases h;rfl
 |cons n ns a=>cases h with
  |cons h b=>rw[zZ2,a b,h.int_inv]
theorem zg8 (d:X.calm=true)(hg:Gl X "max")(hm:X.mg "max"=none)(h:EvD X α e λx=>∃zs:List Int,x=.list (zs.map .int)/\zs≠[]/\Q (.int (ua zs)))(he:starEach [e] X.env=(false,eval e X.env)::starEach [] X.env:=by rfl):
  EvD X α (.Call (.Name "max" p) [e] [] pos) Q:=by
 refine xD (fi d) hg hm boot_max (zm (h.imp λx b=>?_) he) (he:=he);obtain⟨zs,e1,ne,q⟩:=b;refine zx ?_;intro F σ H vs R m c k;subst e1;obtain⟨v,rfl,av⟩:=c.one;obtain⟨a,xs,rfl,h1,h2⟩:=av.lst_inv;have h3:=(zc h1).2;rw[h2.intsV]at h3;exact⟨a,zs,rfl,h3,ne,k _ _ H q m.tp Kz.refl (.int _)⟩
end
theorem mR :typeLookup (.type "list_reverseiterator") "__len__"=pure none:=by rw[yf8,ya6];kernel_rfl
theorem dG :typeLookup (.type "list_reverseiterator") "__length_hint__"=pure (some (.builtin "list_reverseiterator.__length_hint__")):=by rw[yf8,ya6];kernel_rfl
section
variable {prog:Program}{w:World}{A:Around}{E:Value->Shared->Prop}{s:Shared}{it l:Addr}{items:Array Value}
theorem aI {Q:Bool->Shared->Prop}(c:s.TypeIs (.ref it) "list_reverseiterator")(h:Q false s):wpAny (model prog w) A (Builtin.List.listLengthHint (.ref it)) Q E s:=by
 unfold Builtin.List.listLengthHint;refine zX1 (yc4 c mR ?_);show wpAny _ _ (specialOf (Value.ref it) (Str.ofString "__length_hint__") >>= _) _ _ _;refine zX1 (yc4 c dG ?_);generalize a:("list_reverseiterator.__length_hint__":String)=id0
 wp_delta
 rw[show splitId id0=some ("list_reverseiterator","__length_hint__")from by subst a;decide +kernel];subst a;refine zX1 (wpAny_isInstance (T:="list_reverseiterator") (b:=true) c (by rw[isSubtype_type];kernel_rfl) ?_);refine z94 (λq=>absurd q (by decide)) λ_=>?_;refine z94 (λ_=>?_) λq=>absurd (by decide +kernel) q;refine z94 (λq=>absurd q (by decide +kernel)) λ_=>?_;exact zY6 h
theorem rY {Q:Value->Shared->Prop}(J:A.handled=none)(hne:l≠it)(hr:s.heap.IsRevIter it l ((items.size:Int)-1))(B:s.heap.IsList l items)(hn:items.size<=sizeLine)
  (D:∀h' tk acc c,(∀b o,b≠it->s.heap.get? b=some o->h'.get? b=some o)->h'.get? s.heap.objs.size=some {cls:=.type "list",dict:=none,data:=.seq acc c,slots:=#[]}->ItemsOf (λi v=>items[items.size-1-i]?=some v) acc items.size->Q (.ref s.heap.objs.size) {s with heap:=h',toks:=tk}):
  wpAny (model prog w) A (call (.type "list") [.ref it]) Q E s:=by
 refine callType_codes (Q₁:=λobj f=>obj=.ref s.heap.objs.size/\f={s with heap:=s.heap.push {cls:=.type "list",data:=.seq #[]}}) PySem.F.called_list (PySem.F.typeCall_list_1 _) PySem.F.entry_list_init
  (code_list_new _ ⟨rfl,rfl⟩) λobj f k=>?_
 obtain⟨rfl,rfl⟩:=k;generalize d:s.heap.objs.size=S at D ⊢;have t:(s.heap.push {cls:=.type "list",data:=.seq #[]}).get? S=some {cls:=.type "list",data:=.seq #[]}:=by rw[<-d];exact zY5 _ rfl
 have up:∀b o,s.heap.get? b=some o->(s.heap.push {cls:=.type "list",data:=.seq #[]}).get? b=some o:=λb o e=>zX2 _ e;have y:it≠S:=by obtain⟨o,e,_⟩:=id hr;rw[<-d];exact zZ6 (zY4 e)
 have K:l≠S:=by obtain⟨o,e,_⟩:=id B;rw[<-d];exact zZ6 (zY4 e)
 have r:∀{b:Addr} {o:Obj},s.heap.get? b=some o->b≠S:=λe=>by rw[<-d];exact zZ6 (zY4 e)
 have W:=Walks.listRev (prog:=prog) (w:=w) (A:=A.in1.in1) J it l hne items;have u:S∉[it,l]:=by simp only[zX6,zZ1,z08,not_or];exact⟨z09 y,z09 K⟩
 refine⟨⟨_,t,rfl⟩,PySem.F.args_list_init_2 _ _,?_⟩;show wpAny _ _ (do let old <-Builtin.List.listItems (.ref S);Builtin.List.listUpdate (.ref S) (λ_=>#[]);letGo old.toList.reverse;Builtin.List.listExtendWith (.ref S) (.ref it) .none) _ _ _;refine zX1 ?_;unfold Builtin.List.listItems;refine zX1 (z45 t rfl (zY6 ?_));show wpAny _ _ (updateSeq S (λ_=>#[]) >>= λ_=>letGo (#[]:Array Value).toList.reverse >>= λ_=>Builtin.List.listExtendWith (.ref S) (.ref it) .none) _ _ _;refine zX1 (z62 t rfl ?_);obtain⟨M,j⟩:∃H,((s.heap.push {cls:=.type "list",data:=.seq #[]}).update S (Obj.mapSeq (λ_=>(#[]:Array Value)))).get? S=some {cls:=.type "list",dict:=none,data:=.seq #[] H,slots:=#[]}:=⟨_,z70 (c:="list") t λ_=>#[]⟩;have g:∀b o,s.heap.get? b=some o->((s.heap.push {cls:=.type "list",data:=.seq #[]}).update S (Obj.mapSeq (λ_=>(#[]:Array Value)))).get? b=some o:=
  λb o e=>(z01 _ _ (z09 (r e))).trans (up b o e)
 refine zX1 (z78 ?_);have C:({s with heap:=(s.heap.push {cls:=.type "list",data:=.seq #[]}).update S (Obj.mapSeq (λ_=>(#[]:Array Value)))}:Shared).TypeIs (.ref it) "list_reverseiterator":=Heap.IsRevIter.typeIs (hr.at λo e=>g _ o e);unfold Builtin.List.listExtendWith;refine zX1 (wpAny_typeOf C ?_);have G:Builtin.List.listSameRef (.ref S) (.ref it)=false:=by simp[Builtin.List.listSameRef];exact z09 y
 have L:(Value.type "list_reverseiterator" == Value.type "list")=false:=by decide
 have I:(Value.type "list_reverseiterator" == Value.type "tuple")=false:=by decide
 simp only[G,L,I,yb4,z25,z65];refine zX1 (wpAny_pyIter_revIter (hr.at λo e=>g _ o e) ?_);refine zX1 (z43 (aI C ?_));have key:∀(h:Heap) (c₁ tk:Nat),h.get? S=some {cls:=.type "list",dict:=none,data:=.seq #[] c₁,slots:=#[]}->(∀b o,s.heap.get? b=some o->h.get? b=some o)->codeAny (model prog w) A.in1 (.builtin "list.extend.loop" ⟨[.ref S,.ref it,.none],[]⟩) (wants (λv s'=>v=.none/\Q (.ref S) s') E) {s with heap:=h,toks:=tk}:=by
  intro h c₁ tk x a;refine codeAny_extend_loopS W.toS hn S u .none items.size 0 _ #[] c₁ rfl (zY9 _) ⟨zY9 _,by simpa using hr.at λo e=>a _ o e,B.at λo e=>a _ o e⟩ x (ItemsOf.nil _) λs' p c' hm n m=>?_;rw[Moved.eq_with hm];refine⟨rfl,D s'.heap s'.toks p c' (λb o hb e=>hm.heap b o (λz=>?_) (a b o e)) n m⟩;rcases zX6.mp z with z|z
  ·exact r e z
  ·exact hb (zY0.mp z)
 refine z94 (λq=>absurd q (by decide)) (λ_=>zY6 ⟨z88 z55 _,key _ _ _ j g⟩)
end
section
variable {X:Cx}{α:Ev}{a e c:Expr}{p p0 pos pos2:Pos}{Q:List PyData->Prop}
theorem ll {F:TA}(W:X.calm=true)(hgl:Gl X "list")(v:X.mg "list"=none)(hg:Gl X "reversed")(hm:X.mg "reversed"=none)(ha:PA X [a] F)
  (f:starEach [.Call (.Name "reversed" p) [a] [] pos2] X.env=[(false,eval (.Call (.Name "reversed" p) [a] [] pos2) X.env)]:=by rfl) (O:starEach [a] X.env=[(false,eval a X.env)]:=by rfl):
  PE X (.Call (.Name "list" p0) [.Call (.Name "reversed" p) [a] [] pos2] [] pos) (λσ H Q=>F σ H λvs H1=>∃(l:Addr) (xs:List V),vs=[.ref l]/\SqL X.K H1 l xs/\∀D,H1 D=none->Q (.ref D) (upd H1 D (.lst xs.reverse))):=by
 intro pins s σ H Q I h;refine Call_ (yO I hgl v boot_list (z21 ?_ f rfl));rw[f];show wpAny _ _ (spliced ((false,eval _ X.env)::backTo pos [])) _ _ s;refine Calls.spliced_cons ?_;refine Call_ (yO I hg hm boot_reversed (z21 (thn (ha pos2 pins s σ H _ I h) λus s1 t=>?_) O rfl));obtain⟨vs,H1,k,N,R⟩:=t;obtain⟨l,xs,rfl,hq,q⟩:=R;obtain⟨u,rfl,G⟩:=Vals.one N;cases(show u=Value.ref l from G);obtain⟨d,w,pl,hz⟩:=k.list hq;have hlen:=w.length;have r:l<s1.heap.objs.size:=by obtain⟨o,e,_⟩:=pl.isList;exact zY4 e
 refine call_reversed_list pl.isList (Calls.spliced_nil ?_);generalize m:s1.heap.objs.size=it;have A:Inv X pins σ H1 {s1 with heap:=s1.heap.push (revObj l ((d.toArray.size:Int)-1))}:=k.kept (t':=s1.toks) λb o e=>zX2 _ e;have fI:∀H',H' it=none->yZ X pins H' it:=λH' hn=>by rw[<-m]at hn ⊢;exact k.fpOk (zX7 _) hn
 have S:H1 it=none:=by rw[<-m];exact k.hok.fresh (zX7 _)
 refine rY (it:=it) (l:=l) (items:=d.toArray) (k.ok.hd W) (by rw[<-m];exact zZ6 r) (by rw[<-m];exact⟨_,zY5 _ rfl,rfl,rfl⟩) (pl.isList.push _) (by simp;exact zY1 (zZ3 hlen.symm) hz) λh' tk acc c kp e E=>?_;have U:({s1 with heap:=s1.heap.push (revObj l ((d.toArray.size:Int)-1))}:Shared).heap.objs.size=s1.heap.objs.size+1:=z44 _ _;generalize J:({s1 with heap:=s1.heap.push (revObj l ((d.toArray.size:Int)-1))}:Shared).heap.objs.size=D at e ⊢;have g:(s1.heap.push (revObj l ((d.toArray.size:Int)-1))).objs.size<=D:=by rw[<-J];exact zX7 _
 have L:H1 D=none:=A.hok.fresh g;refine⟨.ref D,upd H1 D (.lst xs.reverse),?_,rfl,q D L⟩;refine A.turnLay (ch:=[it]) (λb o hb e=>kp b o (by simpa using hb) e) (λb hb=>by rw[zY0.mp hb];exact fI H1 S) g ⟨by rw[z63];exact hz,acc.toList,c,?_,by simpa using e⟩;have key:∀{as:List V} {bs:List Value},as.length=bs.length->(∀(j:Nat) x,as[j]?=some x->∃u,bs[j]?=some u/\RelV x u)->Vals as bs:=by
  intro as
  induction as with
  |nil=>intro bs h1 _;cases bs with|nil=>exact .nil|cons _ _=>simp at h1
  |cons x as M=>
   intro bs h1 h2;cases bs with
   |nil=>simp at h1
   |cons y bs=>
    obtain⟨u,B,T⟩:=h2 0 x rfl;simp at B;subst B;exact .cons T (M (by simpa using h1) λj P i=>by simpa using h2 (j+1) P (by simpa using i))
 have sa:acc.size=xs.length:=by rw[E.1];simp;exact hlen.symm
 refine key (by rw[z63];exact sa.symm) λj x i=>?_;have n:j<xs.length:=by have:=(zX5.mp i).1;rwa [z63]at this
 rw[List.getElem?_reverse n]at i;obtain⟨u,g1,g2⟩:=w.get i;have z:d.toArray[d.toArray.size-1-j]?=some (acc[j]'(by omega)):=E.2 j (acc[j]'(by omega)) (by simp[show j<acc.size by omega]);refine⟨acc[j]'(by exact zX4 n (zZ3 sa.symm)),by simp[show j<acc.size by exact zX4 n (zZ3 sa.symm)],?_⟩;have e1:d.toArray.size-1-j=xs.length-1-j:=by simp;omega
 rw[e1]at z;have C:d[xs.length-1-j]?=some (acc[j]'(by exact zX4 n (zZ3 sa.symm))):=by simpa using z
 rw[g1]at C;rw[<-z00 C];exact g2
theorem AVs.reverse {H:Hp}{xs:List V}{ds:List PyData}(h:AVs H xs ds):AVs H xs.reverse ds.reverse:=by
 induction h using AVs.ind with
 |nil=>exact .nil
 |cons h _ b=>rw[List.reverse_cons,List.reverse_cons];exact b.append (.cons h .nil)
theorem kD (t:X.calm=true)(hgl:Gl X "list")(b:X.mg "list"=none)(hg:Gl X "reversed")(hm:X.mg "reversed"=none)(h:EvD X α a λx=>∃ds,x=.list ds/\Q ds.reverse)
  (f:starEach [.Call (.Name "reversed" p) [a] [] pos2] X.env=[(false,eval (.Call (.Name "reversed" p) [a] [] pos2) X.env)]:=by rfl) (g:starEach [a] X.env=[(false,eval a X.env)]:=by rfl):
  EvL X α (.Call (.Name "list" p0) [.Call (.Name "reversed" p) [a] [] pos2] [] pos) Q:=λF σ H R m k=>by
 refine⟨_,ll t hgl b hg hm (zr zf zD g) f g,?_⟩;refine h F σ H _ m λx u H1 s t1 d r=>?_;obtain⟨ds,rfl,q⟩:=s;have m1:=m.kz d t1;obtain⟨l,xs,rfl,g1,g2⟩:=r.lst_inv;refine⟨l,xs,rfl,SqL.of (zc g1).2,λD j=>?_⟩;obtain⟨o,n,i⟩:=m1.lay j g2.reverse;exact k _ _ _ q o (d.trans n) (i.back m d t1)
theorem cz {body rest:List Stmt}{E:xf}(v:PassesOwn (model X.prog X.w) X.A X.env X.xe)(P:Nat->Ev->Prop)(t:Nat)(h0:P t α)
  (B:∀n α,P n α->EvT X α c λb=>if b=true then SvS X α body {nx:=λd=>∃f,f<n/\P f d,ct:=λd=>∃f,f<n/\P f d,bk:=λd=>SvS X d rest E,rt:=E.rt}else SvS X α rest E):
  SvS X α (.While c body [] pos::rest) E:=λF σ H D m r=>by
 refine⟨_,zI (mF v xp zV) zV,?_⟩;refine⟨λn g H'=>∃d,M F d g H'/\P n d,⟨t,α,m,h0⟩,?_⟩;rintro n g H' ⟨d,u,y⟩;refine B n d y F g H' _ u λb H1 q t1 z=>?_;have m1:=u.kz z t1;cases b with
 |true=>
  rw[if_pos rfl]at q ⊢;refine⟨λi k=>∃f,f<n/\∃j,M F j i k/\P f j,λi k ⟨f,h1,h2⟩=>⟨f,h1,h2⟩,?_⟩;exact q F g H1 _ m1 ⟨λh σ2 s m2 o=>by obtain⟨f,h1,h2⟩:=o;exact⟨f,h1,h,m2,h2⟩,r.rt,λh σ2 s m2 x=>x F σ2 s D m2 r,λh σ2 s m2 l=>by obtain⟨f,h1,h2⟩:=l;exact⟨f,h1,h,m2,h2⟩⟩
 |false=>
  rw[if_neg (by decide)]at q ⊢;exact q F g H1 D m1 r
end
def mr (Q:PyData->Prop):List PyData->Prop
 |[]=>True
 |d::r=>Q d/\mr Q r
theorem mr.mem {Q:PyData->Prop}:∀{ds:List PyData},mr Q ds->∀d∈ds,Q d
 |[],_,d,h=>by cases h
 |x::r,h,d,hd=>by
  rcases zX6.mp hd with rfl|hd
  ·exact h.1
  ·exact mr.mem h.2 d hd
theorem zl4 {x:PyData}{ds:List PyData}{v:Int}{Q:PyData->Prop}(a:wt x=some ds)(h0:0<=v)(h1:v<ds.length)(h:mr Q ds):∃ds i d,wt x=some ds/\PyData.int v=.int i/\atI ds i=some d/\Q d:=by
 obtain⟨d,hd,e⟩:=zt6 h0 h1;exact⟨ds,v,d,a,rfl,e,h.mem d hd⟩
theorem bX {x:PyData}{ds:List PyData}{v:Int}{Q:PyData->Prop}(P:PyData->Prop)(a:wt x=some ds)(h0:0<=v)(h1:v<ds.length)(h:mr P ds)(k:∀d,P d->Q d):∃ds i d,wt x=some ds/\PyData.int v=.int i/\atI ds i=some d/\Q d:=by
 obtain⟨d,hd,e⟩:=zt6 h0 h1;exact⟨ds,v,d,a,rfl,e,k d (h.mem d hd)⟩
theorem mE {k:Bool}{p q:Prop}(h1:k=true->p)(h2:k=false->q):if k=true then p else q:=by
 cases k with
 |true=>exact h1 rfl
 |false=>exact h2 rfl
theorem vQ {i j:Int}:PyData.eqv (.int i) (.int j)=decide (i=j):=by
 show(i == j)=_;by_cases h:i=j<;>simp[h]
section
variable {X:Cx}{α:Ev}{e a b:Expr}{pos p:Pos}{E:xf}{rest:List Stmt}
def EvR (X:Cx)(α:Ev)(e:Expr)(Q:PyData->Prop):Prop:=∀(F:Fr) (σ:St) (H:Hp) (R:VK),M F α σ H->(∀d v H',Q d->zG F H'->Kz F H H'->AV (sub (λx=>¬F.O0 x/\∀xs,F.H0 x≠some (.lst xs)) H') v d->R v H')->uo X e σ H R
theorem mJ {Q:PyData->Prop}(h:EvD X α e λd=>noL d=true/\Q d):EvR X α e Q:=λF σ H R m k=>h F σ H R m λd v H' q t kz r=>k d v H' q.2 t kz (r.noL (λx o g z=>by
 obtain⟨c,f⟩:=zc z;refine zA ⟨ow0 c,λxs w=>?_⟩ f;have:=kz _ _ (m.keep _ _ w (m.tp.nt (ow0 c))) (m.tp.nt (ow0 c));rw[f]at this;cases this;exact g trivial) q.1)
theorem pE {Q:PyData->Prop}(h:EvL X α e λds=>wU ds=true/\Q (.list ds)):EvR X α e Q:=λF σ H R m k=>h F σ H R m λds v H' q t kz r=>by
 obtain⟨l,xs,rfl,h2,h3,f⟩:=r;refine k _ _ H' q.2 t kz (.lst (zA ⟨ow0 (m.fresh h2),λxs w=>by rw[m.fresh0 h2]at w;cases w⟩ h3) (f.noL (λx o g z=>?_) q.1));obtain⟨c,d⟩:=zc z;refine zA ⟨ow0 c.1,λxs w=>?_⟩ d;have:=kz _ _ (m.keep _ _ w (m.tp.nt (ow0 c.1))) (m.tp.nt (ow0 c.1));rw[d]at this;cases this;exact g trivial
def zk2 (X:Cx)(α:Ev)(c:List Expr)(Q:List PyData->Prop):Prop:=∀(F:Fr) (σ:St) (H:Hp) (R:List V->Hp->Prop),M F α σ H->(∀ds vs H',Q ds->zG F H'->Kz F H H'->AVs (sub (λx=>¬F.O0 x/\∀xs,F.H0 x≠some (.lst xs)) H') vs ds->R vs H')->zH7 X c σ H R
theorem jf {Q:List PyData->Prop}(q:Q []):zk2 X α [] Q:=λF σ H R m k=>⟨_,zD,k _ _ H q m.tp Kz.refl .nil⟩
theorem xS {c:List Expr}{Q:List PyData->Prop}(h:EvR X α e λd=>zk2 X α c λds=>Q (d::ds))(n:starEach (e::c) X.env=(false,eval e X.env)::starEach c X.env:=by rfl):zk2 X α (e::c) Q:=λF σ H R m k=>by
 refine⟨_,zr zf yA n,?_⟩;refine h F σ H _ m λd v H1 r t1 g q=>?_;have m1:=m.kz g t1;exact r F σ H1 _ m1 λas vs s i j f l=>k _ _ s i j (g.trans f) (.cons (q.same (zq λx o z w=>⟨z,f _ _ w (m.tp.nt z.1)⟩)) l)
theorem eG {n:Nat}{d:List Expr}{Q:PyData->Prop}(h:zk2 X α d λds=>ds.length<=1000/\Q (.tuple ds)):EvR X α (.Tuple d n pos) Q:=λF σ H R m k=>by
 refine⟨_,lu yA,?_⟩;refine h F σ H _ m λds vs H1 i t1 f g=>?_;have m1:=m.kz f t1;refine⟨by rw[g.length];exact z30 (yw i.1),λp c=>?_⟩;exact k _ _ _ i.2 (t1.same (ye c)) (f.trans (Kz.of_same (ye c))) (.tup (zA ⟨ow0 (m1.fresh c),λxs w=>by rw[m1.fresh0 c]at w;cases w⟩ zi) (g.same (zq λx o z w=>⟨z,by rw[zb (zj w c)];exact w⟩)))
theorem jD (h:EvR X α e λd=>∀S,E.rt (.deep d S)):SvS X α (.Return (some e) pos::rest) E:=λF σ H D m r=>by
 refine⟨_,zI (vw zf) zV,?_⟩;refine h F σ H _ m λd v H1 j t1 g i=>?_;have m1:=m.kz g t1;refine r.rt (.deep d λy=>¬F.O0 y/\F.H0 y=none/\∃xs,H1 y=some (.lst xs)) _ _ ⟨t1,m.keep.trans g,?_,?_⟩ (j _)
 ·refine i.same λy o z=>?_;obtain⟨f,c⟩:=zc z;unfold nZ;by_cases w:¬F.O0 y/\F.H0 y=none/\∃xs,H1 y=some (.lst xs)
  ·rw[if_pos w];exact c
  ·rw[if_neg w,zA (p:=λx=>¬F.O0 x) f.1 c];cases o with
   |lst xs=>
    exfalso
    cases q:F.H0 y with
    |none=>exact w ⟨f.1,q,xs,c⟩
    |some o'=>
     have:=m1.keep y o' q (m.tp.nt f.1);rw[c]at this;cases this;exact f.2 xs q
   |_=>rfl
 ·exact λx z=>z
end
def zI7 :R2:=λx y H R=>rEq x y H R\/zM1 x y H R
def zO7 :R2:=λx y H R=>rNe x y H R\/zO4 x y H R
theorem cQ {X:Cx}(c:X.A.units+64<cLine):OpR X (compareOp .Eq) zI7:=λpins s σ H x y v u Q I b a h=>h.elim (λh=>jG _ _ _ _ _ _ _ _ _ I b a h) λh=>zB0 c _ _ _ _ _ _ _ _ _ I b a h
theorem eU {X:Cx}(c:X.A.units+64<cLine):OpR X (compareOp .NotEq) zO7:=λpins s σ H x y v u Q I b a h=>h.elim (λh=>zJ3 _ _ _ _ _ _ _ _ _ I b a h) λh=>zD0 c _ _ _ _ _ _ _ _ _ I b a h
theorem zf6 {i j:Str}:Cmp rNe (.str i) (.str j) (!decide (i=j)):=λp H d c R b a h=>by
 cases b.str_inv;cases a.str_inv;refine⟨rfl,?_⟩;rw[show decide (V.str i=V.str j)=decide (i=j) by simp];exact h
def rO (x y:PyData)(Q:Bool->Prop):Prop:=∃k,Cmp zI7 x y k/\Cmp zO7 x y (!k)/\Q k
theorem zi4 {i j:Int}{Q:Bool->Prop}(h:Q (decide (i=j))):rO (.int i) (.int j) Q:=⟨_,λp H d b R c a z=>.inl (jJ p H d b R c a z),λp H d b R c a z=>.inl (zi0 p H d b R c a z),h⟩
theorem qY {i j:Str}{Q:Bool->Prop}(h:Q (decide (i=j))):rO (.str i) (.str j) Q:=⟨_,λp H d b R c a z=>.inl (jN p H d b R c a z),λp H d b R c a z=>.inl (zf6 p H d b R c a z),h⟩
theorem eqk {x y:PyData}{Q:Bool->Prop}(s1:SeqAt.shaped x=true)(s2:SeqAt.shaped y=true)(c:x.hasDict=false)(d:y.hasDict=false)(h:Q (PyData.eqv x y)):rO x y Q:=
 ⟨_,λp H f e R b a z=>.inr ⟨x,y,(b.dv c).same xy,(a.dv d).same xy,s1,s2,z⟩,λp H f e R b a z=>.inr ⟨x,y,(b.dv c).same xy,(a.dv d).same xy,s1,s2,z⟩,h⟩
section
variable {X:Cx}{α:Ev}{a b:Expr}{pos:Pos}{Q:PyData->Prop}{T:Bool->Prop}
theorem zz4 (d:X.A.units+64<cLine)(h:EvD X α a λx=>EvD X α b λy=>rO x y λk=>Q (.bool k)):EvD X α (.Compare a [.Eq] [b] pos) Q:=cO (cQ d) (yc _) (h.imp λx h=>h.imp λy c=>by obtain⟨k,e,_,q⟩:=c;exact⟨k,e,q⟩)
theorem zc0 (d:X.A.units+64<cLine)(h:EvD X α a λx=>EvD X α b λy=>rO x y λk=>Q (.bool (!k))):EvD X α (.Compare a [.NotEq] [b] pos) Q:=cO (eU d) (yc _) (h.imp λx h=>h.imp λy c=>by obtain⟨k,_,e,q⟩:=c;exact⟨!k,e,q⟩)
theorem zF7 (d:X.A.units+64<cLine)(h:EvD X α a λx=>EvD X α b λy=>rO x y T):EvT X α (.Compare a [.Eq] [b] pos) T:=xA (cQ d) (yc _) (h.imp λx h=>h.imp λy c=>by obtain⟨k,e,_,q⟩:=c;exact⟨k,e,q⟩)
theorem og (d:X.A.units+64<cLine)(h:EvD X α a λx=>EvD X α b λy=>rO x y λk=>T (!k)):EvT X α (.Compare a [.NotEq] [b] pos) T:=xA (eU d) (yc _) (h.imp λx h=>h.imp λy c=>by obtain⟨k,_,e,q⟩:=c;exact⟨!k,e,q⟩)
theorem vS {k:Bool}{p q:Prop}(e:k=true)(h:p):if k=true then p else q:=by rw[if_pos e];exact h
theorem nP {k:Bool}{p q:Prop}(e:k=false)(h:q):if k=true then p else q:=by rw[if_neg (by rw[e];decide)];exact h
variable {E:xf}{s t:List Stmt}
theorem vn {k:Bool}(e:k=true)(h:SvS X α s E):SvS X α (if k=true then s else t) E:=by rw[if_pos e];exact h
theorem zC {k:Bool}(e:k=false)(h:SvS X α t E):SvS X α (if k=true then s else t) E:=by rw[if_neg (by rw[e];decide)];exact h
end
section
variable {X:Cx}{α:Ev}{a b:Expr}{pos:Pos}{Q:PyData->Prop}{T:Bool->Prop}
def zI2 :R2:=λx y H Q=>∃a v,x=.ref a/\kf H a y (some v)/\Q v H
theorem zo4 (d:X.A.units+1<cLine):IxR X zI2:=λvalue slice pins s σ H x y v u Q I i c h j=>by
 obtain⟨a,z,rfl,g,q⟩:=h;cases i;exact tail_any (mB I g) PySem.F.slot_dict_getitem.lookup (fO d I g c λk s' f e=>⟨z,H,f,e,q⟩) j
def nc (x y:PyData)(Q:PyData->Prop):Prop:=(∃ds i d,wt x=some ds/\y=.int i/\atI ds i=some d/\Q d)\/∃ds k d,x=yT ds/\y=xG k/\ug ds k=some d/\Q d
theorem ixk {x y:PyData}{ds:List PyData}{i:Int}{d:PyData}(h1:wt x=some ds)(h2:y=.int i)(h3:atI ds i=some d)(h:Q d):nc x y Q:=.inl ⟨ds,i,d,h1,h2,h3,h⟩
theorem zJ5 {d:PyData}{r:List PyData}(h:Q d):nc (.tuple (d::r)) (.int 0) Q:=ixk rfl rfl (zW (j:=0) rfl) h
theorem zR8 {d e:PyData}{r:List PyData}(h:Q e):nc (.tuple (d::e::r)) (.int 1) Q:=ixk rfl rfl (zW (j:=1) rfl) h
theorem vR {ds:List (PyData×PyData)}{k:Key}{d y:PyData}(h2:y=xG k)(h3:ug ds k=some d)(h:Q d):nc (yT ds) y Q:=.inr ⟨ds,k,d,rfl,h2,h3,h⟩
theorem tI {x:PyData}{ds:List PyData}{v:Int}(c:wt x=some ds)(h0:0<=v)(h1:v<ds.length)(h:mr Q ds):nc x (.int v) Q:=.inl (zl4 c h0 h1 h)
theorem jg {x:PyData}{ds:List PyData}{v:Int}(P:PyData->Prop)(c:wt x=some ds)(h0:0<=v)(h1:v<ds.length)(h:mr P ds)(k:∀d,P d->Q d):nc x (.int v) Q:=.inl (bX P c h0 h1 h k)
theorem mG (p:X.A.units+1<cLine)(r:tE b)(h:EvD X α a λx=>EvD X α b λy=>nc x y Q):EvD X α (.Subscript a b pos) Q:=by
 refine uI (f:=tOp (λx y H Q=>rIx X.K x y H Q\/zI2 x y H Q)) (yx (zE1.or (zo4 p)) zf zf r) (λ_ _ _=>Iff.rfl) (h.imp λx h=>h.imp λy h=>?_);intro F σ H t u R m j l k;rcases h with⟨ds,i,d,e1,rfl,e,hq⟩|⟨ds,s,d,rfl,rfl,c,hq⟩
 ·cases l.int_inv;cases x with
  |list g=>
   cases e1;obtain⟨a,xs,rfl,h1,h2⟩:=j.lst_inv;obtain⟨v,c,av⟩:=h2.atI e;exact .inl (.inl ⟨a,xs,i,v,rfl,rfl,SqL.of (zc h1).2,c,k d v H hq m.tp Kz.refl av⟩)
  |tuple g=>
   cases e1;obtain⟨a,xs,rfl,h1,h2⟩:=j.tup_inv;obtain⟨v,c,av⟩:=h2.atI e;exact .inl (.inr (.inl ⟨a,xs,i,v,rfl,rfl,SqT.of (zc h1).2,c,k d v H hq m.tp Kz.refl av⟩))
  |_=>cases e1
 ·obtain⟨a,o,kvs,rfl,g1,g2⟩:=j.dk_inv;obtain⟨v,q,n⟩:=g2.get c;cases tJ l;exact .inr ⟨a,v,rfl,.inl ⟨kvs,s,.inr ⟨o,(zc g1).2⟩,rfl,q.symm⟩,k d v H hq m.tp Kz.refl n⟩
def zf9 (K:PySem.W.Frag)(neg:Bool):R2:=λx y H Q=>rIn K neg x y H Q\/∃a o,y=.ref a/\kf H a x o/\Q (.bl (if neg then !o.isSome else o.isSome)) H
theorem zF4 (e:X.A.units+1<cLine):OpR X (compareOp .In) (zf9 X.K false):=λpins s σ H x y v u Q I d c h=>by
 rcases h with h|⟨a,o,rfl,g,q⟩
 ·exact fP pins s σ H x y v u Q I d c h
 ·cases c;exact zU4 e I g d λs' f=>⟨.bl o.isSome,H,f,rfl,q⟩
theorem hU (e:X.A.units+1<cLine):OpR X (compareOp .NotIn) (zf9 X.K true):=λpins s σ H x y v u Q I d c h=>by
 rcases h with h|⟨a,o,rfl,g,q⟩
 ·exact qU pins s σ H x y v u Q I d c h
 ·cases c;exact zk0 e I g d λs' f=>⟨.bl (!o.isSome),H,f,rfl,q⟩
def aC (X:Cx)(x y:PyData)(Q:Bool->Prop):Prop:=∃k,Cmp (zf9 X.K false) x y k/\Cmp (zf9 X.K true) x y (!k)/\Q k
theorem ink {x:PyData}{ds:List PyData}(f1:rP x=true)(f2:ds.all rP=true)(q:T (inD x ds)):aC X x (.list ds) T:=
 ⟨_,λp H f d R e c h=>.inl (ba (X:=X) (neg:=false) f1 f2 p H f d R e c h),λp H f d R e c h=>.inl (ba (X:=X) (neg:=true) f1 f2 p H f d R e c h),q⟩
theorem nk {x:PyData}{ds:List (PyData×PyData)}{k:Key}(e:x=xG k)(q:T (ug ds k).isSome):aC X x (yT ds) T:=by
 subst e;have key:∀(p:Addr->Prop) (H:Hp) (d c:V),AV (sub p H) d (xG k)->AV (sub p H) c (yT ds)->∃a o,c=.ref a/\kf H a d o/\o.isSome=(ug ds k).isSome:=λp H d c g f=>by
  obtain⟨a,o,kvs,rfl,g1,g2⟩:=f.dk_inv;cases tJ g;exact⟨a,_,rfl,.inl ⟨kvs,k,.inr ⟨o,(zc g1).2⟩,rfl,rfl⟩,g2.some_iff k⟩
 refine⟨_,λp H d c R g f h=>?_,λp H d c R g f h=>?_,q⟩
 ·obtain⟨a,o,e1,i,j⟩:=key p H d c g f;exact .inr ⟨a,o,e1,i,by rw[if_neg (by decide),j];exact h⟩
 ·obtain⟨a,o,e1,i,j⟩:=key p H d c g f;exact .inr ⟨a,o,e1,i,by rw[if_pos rfl,j];exact h⟩
theorem zy6 (d:X.A.units+1<cLine)(h:EvD X α a λx=>EvD X α b λy=>aC X x y T)(hm:behindInMarks .In b=false:=by rfl):EvT X α (.Compare a [.In] [b] pos) T:=
 xA (zF4 d) hm (h.imp λx h=>h.imp λy c=>by obtain⟨k,e,_,q⟩:=c;exact⟨k,e,q⟩)
theorem zl8 (d:X.A.units+1<cLine)(h:EvD X α a λx=>EvD X α b λy=>aC X x y λk=>T (!k))(hm:behindInMarks .NotIn b=false:=by rfl):EvT X α (.Compare a [.NotIn] [b] pos) T:=
 xA (hU d) hm (h.imp λx h=>h.imp λy c=>by obtain⟨k,_,e,q⟩:=c;exact⟨!k,e,q⟩)
end
theorem zM.few {k:Nat}{A:Around}(h:zM k A):A.units+70<cLine:=by have:=h.un;lia
theorem zM.one {k:Nat}{A:Around}(h:zM k A):A.units+1<cLine:=by have:=h.units;exact zW1 this
section
variable {X:Cx}{α:Ev}{E:xf}{rest body:List Stmt}{e c tg iter:Expr}{pos p:Pos}
theorem yq (pat:Pat)(h:EvI X α tg iter λds=>uZ X pat body rest E ds α)(f:X.N.Nodup:=by assumption)(a:PassesOwn (model X.prog X.w) X.A X.env X.xe:=by exact z96)(b:X.calm=true:=by rfl)
  (hg:PG X tg (nu X.K pat):=by first|exact yd (by assumption) rfl (Or.inl rfl)|exact yd (by assumption) rfl (Or.inr rfl)|exact vX rfl rfl (by repeat (first|exact tT|refine wK (by first|exact yd (by assumption) rfl (Or.inl rfl)|exact yd (by assumption) rfl (Or.inr rfl)) ?_)))
  (d:∀x,foldedSetIterable iter X.env x=pure x:=by intro _;rfl):SvS X α (.For tg iter body [] pos::rest) E:=pQ a b hg h d
def freeOk (xs:Scope)(y:Str×NameKind):Bool:=match y.2 with
 |.free=>match xs.names.lookup y.1 with
  |some .cell=>true
  |some .free=>true
  |_=>false
 |_=>true
theorem nj {xs scope:Scope}(h:scope.names.all (freeOk xs)=true):∀y∈scope.names,y.2=.free->xs.names.lookup y.1=some .cell\/xs.names.lookup y.1=some .free:=λy hy e=>by
 have:=z67.mp h y hy;unfold freeOk at this;rw[e]at this;cases z:xs.names.lookup y.1 with
 |none=>rw[z]at this;cases this
 |some k=>
  rw[z]at this;cases k<;>first|exact .inl rfl|exact .inr rfl|cases this
theorem yt (N:List Str)(imp:List (Option Nat))(pat:Pat){scope:Scope}{elt:Expr}{ifs:List Expr}{Q:List PyData->Prop}(h:EvI X α tg iter λds=>ds.length<=1000/\yX (λC s2 d fp=>X.comp N scope C s2 d fp) pat ifs elt (yI imp α) ds [] Q)
  (nd:N.Nodup:=by decide +kernel) (h1:scope.kind=.function:=by rfl) (h2:∀y∈scope.names,y.2≠.cell:=by decide +kernel) (h3:∀y∈scope.names,y.2=.local->scope.names.lookup y.1=some .local:=by decide +kernel) (i:scope.names.all (freeOk X.env.scope)=true:=by rfl) (g:imp.length=N.length:=by rfl)
  (f:((imp.zip N).all λp=>match p.1 with|none=>true|some j=>X.N[j]? == some p.2&&scope.names.lookup p.2 == some .free)=true:=by rfl) (a:pat.free (yI imp α)=true:=by rfl)
  (hg:∀C s2 d fp,N.Nodup->PG (X.comp N scope C s2 d fp) tg (nu X.K pat):=by intro _ _ _ _ b;first|exact yd b rfl (Or.inl rfl)|exact vX rfl rfl (by repeat (first|exact tT|refine wK (yd b rfl (Or.inl rfl)) ?_)))
  (k:X.calm=true:=by rfl) (l:∀x,foldedSetIterable iter X.env x=pure x:=by intro _;rfl):EvL X α (.ListComp elt [⟨tg,iter,ifs,0⟩] scope pos) Q:=dQ k ⟨h1,nd,h2,h3,nj i,g,f⟩ a (λC s2 d fp=>hg C s2 d fp nd) h l
theorem uE (i:Nat)(N:List Str)(imp:List (Option Nat))(pat:Pat){x:Str}{pos' a:Pos}{scope:Scope}{elt:Expr}{ifs:List Expr}(h:EvI X α tg iter λds=>ds.length<=1000/\yX (λC s2 d fp=>X.comp N scope C s2 d fp) pat ifs elt (yI imp α) ds [] λds=>SvS X (α.set i (some (.own ds))) rest E)
  (m:X.N.Nodup:=by assumption)
  (nd:N.Nodup:=by decide +kernel) (h1:scope.kind=.function:=by rfl) (h2:∀y∈scope.names,y.2≠.cell:=by decide +kernel) (h3:∀y∈scope.names,y.2=.local->scope.names.lookup y.1=some .local:=by decide +kernel) (l:scope.names.all (freeOk X.env.scope)=true:=by rfl) (k:imp.length=N.length:=by rfl)
  (n:((imp.zip N).all λp=>match p.1 with|none=>true|some j=>X.N[j]? == some p.2&&scope.names.lookup p.2 == some .free)=true:=by rfl) (b:pat.free (yI imp α)=true:=by rfl)
  (hg:∀C s2 d fp,N.Nodup->PG (X.comp N scope C s2 d fp) tg (nu X.K pat):=by intro _ _ _ _ f;first|exact yd f rfl (Or.inl rfl)|exact vX rfl rfl (by repeat (first|exact tT|refine wK (yd f rfl (Or.inl rfl)) ?_)))
  (q:X.calm=true:=by rfl)
  (hi:X.N[i]?=some x:=by rfl) (o:Loc X.env.scope x:=by first|exact Or.inl rfl|exact Or.inr rfl) (g:swapsWith (.ListComp elt [⟨tg,iter,ifs,0⟩] scope a) (some (.Name x pos')) pos.line X.env=pure true:=by rfl)
  (hf:X.fn x=true\/X.env.scope.names.lookup x=some .local:=by first|exact .inl rfl|exact .inr rfl|assumption) (r:∀x,foldedSetIterable iter X.env x=pure x:=by intro _;rfl):
  SvS X α (.Assign [.Name x pos'] (.ListComp elt [⟨tg,iter,ifs,0⟩] scope a) pos::rest) E:=cS i m q ⟨h1,nd,h2,h3,nj l,k,n⟩ b (λC s2 d fp=>hg C s2 d fp nd) h hi o g hf r
end
section
variable {Y:Addr->Shared->Hp->List Addr->Cx}{pat:Pat}{ifs:List Expr}{elt:Expr}{α0:Ev}{ι:Type}{g f:ι->PyData}{l:List ι}{acc:List PyData}{Q:List PyData->Prop}
theorem cN (p:ι->Bool)(f:ι->PyData)(h:∀x∈l,∃a,pat.bind (g x) α0=some a/\(∀C s2 b fp (Q:Bool->Prop),Q (p x)->gC (Y C s2 b fp) a ifs Q)/\(p x=true->∀C s2 b fp (Q:PyData->Prop),Q (f x)->EvD (Y C s2 b fp) a elt Q))
  (hd:Q (acc++(l.filter p).map f)):yX Y pat ifs elt α0 (l.map g) acc Q:=by
 induction l generalizing acc with
 |nil=>
  show Q acc;simpa using hd
 |cons d ds i=>
  obtain⟨a,e,h1,h2⟩:=h d zX9;refine⟨a,e,λC s2 b fp=>h1 C s2 b fp _ ?_⟩;have c:=λacc=>i (acc:=acc) λd hd=>h d (zX8 _ hd);cases hp:p d with
  |true=>
   rw[if_pos rfl];refine λC s2 b fp=>h2 hp C s2 b fp _ (c _ ?_);simpa[yb1,hp]using hd
  |false=>
   rw[if_neg (by decide)];refine c _ ?_;simpa[yb1,hp]using hd
theorem zw (f:ι->PyData)(d:∀x∈l,∃a,pat.bind (g x) α0=some a/\∀C s2 c fp (Q:PyData->Prop),Q (f x)->EvD (Y C s2 c fp) a elt Q)(hd:Q (acc++l.map f)):yX Y pat [] elt α0 (l.map g) acc Q:=
 cN (λ_=>true) f (λx b=>by
  obtain⟨a,h1,h2⟩:=d x b;exact⟨a,h1,λ_ _ _ _ _ k=>km k,λ_=>h2⟩) (by rw[List.filter_eq_self.mpr λ_ _=>rfl];exact hd)
end
abbrev Part :=Int×Int×Nat
abbrev Way :=Int×Int×Option Part
abbrev Co :=Nat->Int->Int->Option Int
inductive Cut (co:Co)(N:Nat):Int->Int->Int->List Part->Prop
 |nil (a:Int):Cut co N a a 0 []
 |cons {a e b x y:Int}{n:Nat}{ps:List Part} (h1:a<e) (h2:n<N) (h3:co n a e=some x) (h:Cut co N e b y ps):Cut co N a b (x+y) ((a,e,n)::ps)
section
variable {co:Co}{N:Nat}
theorem Cut.le {a b z:Int}{ps:List Part}(h:Cut co N a b z ps):a<=b:=by
 induction h with
 |nil a=>exact z77 _
 |cons h1 _ _ _ c=>exact ye9 (z81 h1 c)
theorem Cut.app {a b e z y:Int}{ps qs:List Part}(h:Cut co N a b z ps)(h':Cut co N b e y qs):Cut co N a e (z+y) (ps++qs):=by
 induction h with
 |nil a=>rw[Int.zero_add];exact h'
 |cons h1 h2 h3 _ c=>rw[Int.add_assoc,yb2];exact .cons h1 h2 h3 (c h')
theorem Cut.snoc {a b e z x:Int}{n:Nat}{ps:List Part}(h:Cut co N a b z ps)(h1:b<e)(h2:n<N)(h3:co n b e=some x):Cut co N a e (z+x) (ps++[(b,e,n)]):=by
 have:=h.app (.cons h1 h2 h3 (.nil e))
 rwa [Int.add_zero]at this
theorem Cut.last {a b z:Int}{ps:List Part}(h:Cut co N a b z ps):(ps=[]/\a=b/\z=0)\/∃qs d y x n,ps=qs++[(d,b,n)]/\Cut co N a d y qs/\d<b/\n<N/\co n d b=some x/\z=y+x:=by
 induction h with
 |nil a=>exact .inl ⟨rfl,rfl,rfl⟩
 |@cons a e b x y n ps h1 h2 h3 h ih=>
  right;rcases ih with⟨rfl,rfl,rfl⟩|⟨qs,d,i,f,m,rfl,c,hd,hm,g,rfl⟩
  ·exact⟨[],a,0,x,n,rfl,.nil a,h1,h2,h3,zV3⟩
  ·exact⟨(a,e,n)::qs,d,x+i,f,m,rfl,.cons h1 h2 h3 c,hd,hm,g,zV8⟩
def zl9 (co:Co)(N:Nat)(a b z:Int):Prop:=(∃ps,Cut co N a b z ps)/\∀y ps,Cut co N a b y ps->z<=y
def ltQ (x y:Part):Bool:=decide (x.1<y.1)||(decide (x.1=y.1)&&(decide (x.2.1<y.2.1)||(decide (x.2.1=y.2.1)&&decide (x.2.2<y.2.2))))
def ltP (x y:Int×Part):Bool:=decide (x.1<y.1)||(decide (x.1=y.1)&&ltQ x.2 y.2)
def ke :List (Int×Part)->Int×Part
 |[]=>(0,0,0,0)
 |d::ds=>ds.foldl (λb x=>if ltP x b=true then x else b) d
theorem zN0 {x y:Int×Part}(h:ltP x y=true):x.1<=y.1:=by
 unfold ltP at h;simp only[z83,z24,z37]at h
 lia
theorem zI6 {x y:Int×Part}(h:¬ltP x y=true):y.1<=x.1:=by
 unfold ltP at h;simp only[z83,z24,z37,not_or]at h;exact Int.not_lt.1 h.1
theorem ie :∀(ds:List (Int×Part)) (d:Int×Part),(ds.foldl (λb x=>if ltP x b=true then x else b) d=d\/ds.foldl (λb x=>if ltP x b=true then x else b) d∈ds)/\(ds.foldl (λb x=>if ltP x b=true then x else b) d).1<=d.1/\∀x∈ds,(ds.foldl (λb x=>if ltP x b=true then x else b) d).1<=x.1
 |[],d=>⟨.inl rfl,z77 _,λx a=>by simp at a⟩
 |y::ds,d=>by
  rw[yc6];obtain⟨h1,h2,h3⟩:=ie ds (if ltP y d=true then y else d);by_cases h:ltP y d=true
  ·rw[if_pos h]at h1 h2 h3 ⊢;have:=zN0 h;refine⟨.inr ?_,(Int.le_trans h2 this),λx a=>?_⟩
   ·rcases h1 with e|e
    ·rw[e];exact zX9
    ·exact zX8 _ e
   ·rcases zX6.mp a with rfl|a
    ·exact h2
    ·exact h3 x a
  ·rw[if_neg h]at h1 h2 h3 ⊢;have:=zI6 h;refine⟨h1.imp id λe=>zX8 _ e,h2,λx a=>?_⟩;rcases zX6.mp a with rfl|a
   ·exact Int.le_trans h2 this
   ·exact h3 x a
theorem bS {ds:List (Int×Part)}(h:ds≠[]):ke ds∈ds:=by
 cases ds with
 |nil=>exact absurd rfl h
 |cons d ds=>
  rcases(ie ds d).1 with e|e
  ·show List.foldl _ d ds∈_;rw[e];exact zX9
  ·exact zX8 _ e
theorem zj7 {ds:List (Int×Part)}{x:Int×Part}(h:x∈ds):(ke ds).1<=x.1:=by
 cases ds with
 |nil=>simp at h
 |cons d ds=>
  rcases zX6.mp h with rfl|h
  ·exact(ie ds x).2.1
  ·exact(ie ds d).2.2 x h
def eZ (co:Co)(N:Nat)(day:Int)(w:Way):List (Int×Part):=(List.range N).filterMap λn=>(co n w.1 day).map λx=>(w.2.1+x,(w.1,day,n))
def uN (co:Co)(N:Nat)(W:List Way)(day:Int):List (Int×Part):=W.flatMap (eZ co N day)
theorem pk {W:List Way}{day:Int}{p:Int×Part}:p∈uN co N W day↔∃w∈W,∃n x,n<N/\co n w.1 day=some x/\p=(w.2.1+x,(w.1,day,n)):=by
 unfold uN eZ;simp only[List.mem_flatMap,yg4,List.mem_range,zZ4]
 constructor
 ·rintro⟨w,hw,n,hn,x,a,rfl⟩;exact⟨w,hw,n,x,hn,a,rfl⟩
 ·rintro⟨w,hw,n,x,hn,a,rfl⟩;exact⟨w,hw,n,hn,x,a,rfl⟩
def nG (co:Co)(N:Nat)(W:List Way)(day:Int):List Way:=if uN co N W day=[]then W else W++[(day,(ke (uN co N W day)).1,some (ke (uN co N W day)).2)]
def yb (co:Co)(N:Nat)(c:Int):Nat->List Way
 |0=>[(c,0,none)]
 |k+1=>nG co N (yb co N c k) (c+1+k)
def yg (W:List Way)(d:Int):Option (Int×Option Part):=(W.find? λw=>decide (w.1=d)).map (·.2)
structure wj (co:Co)(N:Nat)(c:Int)(k:Nat)(W:List Way):Prop where
 first:∃r,W=(c,0,none)::r/\∀w∈r,c<w.1
 top:∀w∈W,w.1<=c+k
 sort:(W.map (·.1)).Pairwise (·<·)
 step:∀w∈W,w=(c,0,none)\/∃u∈W,∃n y,u.1<w.1/\n<N/\co n u.1 w.1=some y/\w=(w.1,u.2.1+y,some (u.1,w.1,n))
 shut:∀u∈W,∀d n y,u.1<d->d<=c+k->n<N->co n u.1 d=some y->∃w∈W,w.1=d/\w.2.1<=u.2.1+y
theorem wj.low {c:Int}{k:Nat}{W:List Way}(h:wj co N c k W):∀w∈W,c<=w.1:=λw hw=>by
 obtain⟨r,rfl,hr⟩:=h.first;rcases zX6.mp hw with rfl|hw
 ·exact z77 _
 ·have:=hr w hw;exact ye9 this
theorem zi9 (c:Int):∀k,wj co N c k (yb co N c k)
 |0=>by
  refine⟨⟨[],rfl,λw hw=>by simp at hw⟩,λw hw=>?_,by simp[yb],λw hw=>?_,λu f d n y h1 h2 _ _=>?_⟩
  ·rw[zY0.mp hw];simp
  ·exact .inl (zY0.mp hw)
  ·rw[zY0.mp f]at h1;simp only[Int.natCast_zero,Int.add_zero]at h2;have s:c<d:=h1
   lia
 |k+1=>by
  have g:=zi9 c k;unfold yb nG;generalize yb co N c k=W at g;obtain⟨r,hr,p⟩:=g.first;by_cases e:uN co N W (c+1+k)=[]
  ·rw[if_pos e];refine⟨g.first,λw hw=>by have:=g.top w hw;exact zP5 this,g.sort,g.step,λu f d n y h1 h2 h3 i=>?_⟩;by_cases hd:d<=c+k
   ·exact g.shut u f d n y h1 hd h3 i
   ·have:d=c+1+k:=(zR7 h2 hd);subst this;have:=pk.mpr ⟨u,f,n,y,h3,i,rfl⟩;rw[e]at this;simp at this
  ·rw[if_neg e];have hm:=bS e;obtain⟨m,j,q,t,l,o,em⟩:=pk.mp hm;refine⟨?_,λw hw=>?_,?_,λw hw=>?_,λu f d n y h1 h2 h3 i=>?_⟩
   ·rw[hr];refine⟨r++[_],rfl,λw hw=>?_⟩;rcases z31.mp hw with hw|hw
    ·exact p w hw
    ·rw[zY0.mp hw];show c<c+1+k;lia
   ·rcases z31.mp hw with hw|hw
    ·have:=g.top w hw;exact zP5 this
    ·rw[zY0.mp hw];show c+1+k<=c+((k+1:Nat):Int);exact zV9
   ·rw[z22,List.pairwise_append];refine⟨g.sort,by simp,λa ha b hb=>?_⟩;obtain⟨w,hw,rfl⟩:=z06.mp ha;have:=g.top w hw;rw[zZ2,ya5,zY0]at hb;have hb:b=c+1+k:=hb
    lia
   ·rcases z31.mp hw with hw|hw
    ·rcases g.step w hw with h|⟨u,f,n,y,h⟩
     ·exact .inl h
     ·exact .inr ⟨u,z89 _ f,n,y,h⟩
    ·rw[zY0.mp hw];refine .inr ⟨m,z89 _ j,q,t,?_,l,o,?_⟩
     ·have:=g.top m j;show m.1<c+1+k;exact zS1 this
     ·rw[em]
   ·have key:∀u∈W,u.1<d->∃w∈W++[(c+1+(k:Int),(ke (uN co N W (c+1+k))).1,some (ke (uN co N W (c+1+k))).2)],w.1=d/\(co n u.1 d=some y->w.2.1<=u.2.1+y)\/¬co n u.1 d=some y:=λu f h1=>by
     by_cases i:co n u.1 d=some y
     ·by_cases hd:d<=c+k
      ·obtain⟨w,hw,e1,v⟩:=g.shut u f d n y h1 hd h3 i;exact⟨w,z89 _ hw,.inl ⟨e1,λ_=>v⟩⟩
      ·have:d=c+1+k:=(zR7 h2 hd);subst this;exact⟨_,z07 _ (zY0.mpr rfl),.inl ⟨rfl,λ_=>zj7 (pk.mpr ⟨u,f,n,y,h3,i,rfl⟩)⟩⟩
     ·exact⟨_,z07 _ (zY0.mpr rfl),.inr i⟩
    rcases z31.mp f with f|f
    ·obtain⟨w,hw,h|h⟩:=key u f h1
     ·exact⟨w,hw,h.1,h.2 i⟩
     ·exact absurd i h
    ·rw[zY0.mp f]at h1;have h1:c+1+(k:Int)<d:=h1
     lia
theorem wj.uniq {c:Int}{k:Nat}{W:List Way}(h:wj co N c k W){u w:Way}(g:u∈W)(hw:w∈W)(e:u.1=w.1):u=w:=by
 have f:=h.sort;clear h
 induction W with
 |nil=>simp at g
 |cons a W i=>
  rw[zZ2,yd2]at f;rcases zX6.mp g with rfl|d
  ·rcases zX6.mp hw with rfl|b
   ·rfl
   ·have:=f.1 w.1 (z06.mpr ⟨w,b,rfl⟩);exact(ye3 _ (z81 this (Int.le_of_eq e.symm))).elim
  ·rcases zX6.mp hw with rfl|b
   ·have:=f.1 u.1 (z06.mpr ⟨u,d,rfl⟩);exact(ye3 _ (z81 this (Int.le_of_eq e))).elim
   ·exact i d b f.2
theorem find_some {W:List Way}{d:Int}{x:Int}{l:Option Part}(h:yg W d=some (x,l)):(d,x,l)∈W:=by
 unfold yg at h;obtain⟨w,hw,e⟩:=zZ4.mp h;have h1:=List.find?_some hw;rw[z37]at h1;have h2:=List.mem_of_find?_eq_some hw;rw[show(d,x,l)=w by rw[<-h1,<-e]];exact h2
theorem find_none {W:List Way}{d:Int}(h:yg W d=none):∀w∈W,w.1≠d:=λw hw e=>by
 unfold yg at h;rw[Option.map_eq_none_iff,List.find?_eq_none]at h;have:=h w hw;rw[z02 e]at this;exact this rfl
theorem wj.find {c:Int}{k:Nat}{W:List Way}(h:wj co N c k W){d x:Int}{l:Option Part}(hw:(d,x,l)∈W):yg W d=some (x,l):=by
 cases e:yg W d with
 |none=>exact absurd rfl (find_none e _ hw)
 |some p=>
  have:=h.uniq (find_some e) hw rfl;rw[show p=(x,l) by injection this]
theorem wj.least {c:Int}{k:Nat}{W:List Way}(h:wj co N c k W):∀(m:Nat) {d z:Int}{ps:List Part},ps.length=m->Cut co N c d z ps->d<=c+k->∃w∈W,w.1=d/\w.2.1<=z
 |0,d,z,ps,a,f,hd=>by
  rcases f.last with⟨_,rfl,rfl⟩|⟨qs,_,_,_,_,rfl,_⟩
  ·obtain⟨r,rfl,_⟩:=h.first;exact⟨_,zX9,rfl,z77 _⟩
  ·simp at a
 |m+1,d,z,ps,a,f,hd=>by
  rcases f.last with⟨rfl,_⟩|⟨qs,b,y,x,n,rfl,e,hb,hn,i,rfl⟩
  ·simp at a
  ·obtain⟨u,g,rfl,hle⟩:=h.least m (by simpa using a) e (ye9 (z81 hb hd));obtain⟨w,hw,e1,j⟩:=h.shut u g d n x hb hd hn i;exact⟨w,hw,e1,by lia⟩
def wB (W:List Way)(c:Int):Nat->Int->List Part
 |0,_=>[]
 |f+1,d=>if d=c then []else match yg W d with
  |some (_,some p)=>p::wB W c f p.1
  |_=>[]
theorem wj.back {c:Int}{k:Nat}{W:List Way}(h:wj co N c k W):∀(f:Nat) {d x:Int}{l:Option Part},(d,x,l)∈W->d-c<=f->Cut co N c d x (wB W c f d).reverse
 |0,d,x,l,hw,hf=>by
  have:=h.low _ hw;have hd:d=c:=by simp only[Int.natCast_zero]at hf;have:c<=d:=this;lia
  subst hd;obtain⟨r,hr,_⟩:=h.first;have:=h.uniq (w:=(d,0,none)) hw (by rw[hr];exact zX9) rfl;injection this with _ e;injection e with e _;subst e;exact .nil _
 |f+1,d,x,l,hw,hf=>by
  rw[wB];rcases h.step _ hw with e|⟨u,b,n,y,h1,h2,h3,e⟩
  ·injection e with e1 a;injection a with a _;subst e1 a;rw[if_pos rfl];exact .nil _
  ·have i:=h.low u b;have h1:u.1<d:=h1;have h3:co n u.1 d=some y:=h3;have e:(d,x,l)=(d,u.2.1+y,some (u.1,d,n)):=e;injection e with _ e;injection e with e g;subst e g;rw[if_neg (by lia),h.find hw];show Cut co N c d _ ((u.1,d,n)::wB W c f u.1).reverse;rw[List.reverse_cons];exact(h.back f (d:=u.1) (x:=u.2.1) (l:=u.2.2) b (by lia)).snoc h1 h2 h3
def rE (W:List Way):List Int:=W.map (·.2.1)
def qW (W:List Way)(hi:Int)(d:Int):Int:=match yg W d with
 |some (x,_)=>x
 |none=>hi
end
theorem zm1 (a:Int)(k:Nat):zo a (k+1)=zo a k++[a+(k:Nat)]:=by
 unfold zo;rw[List.range_succ,z22];rfl
theorem zD7 (f:Int->Int)(a:Int):∀k:Nat,((zo a k).map λd=>f (d+1)-f d).sum=f (a+k)-f a
 |0=>by simp[zo]
 |k+1=>by
  rw[zm1,z22,List.sum_append,zD7 f a k];simp only[zZ2,ya5,z59,List.sum_nil];rw[show a+((k+1:Nat):Int)=a+k+1 by omega];omega
theorem zD6 (a:Int){n i k:Nat}(h:i+k<=n):((zo a n).drop i).take k=zo (a+i) k:=by
 refine List.ext_getElem? λj=>?_;rw[List.getElem?_take];split
 ·rename_i b;rw[yg7,zU (zS4 h b),zU b]
  congr 1
  lia
 ·rw[z85 (by rw[zd];lia)]
theorem zh9 :∀{zs:List Int}{z:Int},z∈zs->z<=ua zs:=by
 intro zs z h;cases zs with
 |nil=>simp at h
 |cons d ds=>
  have key:∀(l:List Int) (m:Int),m<=l.foldl (λb x=>if b<x then x else b) m/\∀y∈l,y<=l.foldl (λb x=>if b<x then x else b) m:=by
   intro l
   induction l with
   |nil=>exact λm=>⟨z77 _,λy hy=>by simp at hy⟩
   |cons x l a=>
    intro m;rw[yc6];obtain⟨h1,h2⟩:=a (if m<x then x else m);have hm:m<=(if m<x then x else m)/\x<=(if m<x then x else m):=by split<;>lia
    refine⟨(Int.le_trans hm.1 h1),λy hy=>?_⟩;rcases zX6.mp hy with rfl|hy
    ·exact Int.le_trans hm.2 h1
    ·exact h2 y hy
  have:=key ds d;rcases zX6.mp h with rfl|h
  ·exact this.1
  ·exact this.2 z h
theorem zc2 {zs:List Int}(h:zs≠[]):ua zs∈zs:=by
 cases zs with
 |nil=>exact absurd rfl h
 |cons d ds=>
  have key:∀(l:List Int) (m:Int),l.foldl (λb x=>if b<x then x else b) m=m\/l.foldl (λb x=>if b<x then x else b) m∈l:=by
   intro l
   induction l with
   |nil=>exact λm=>.inl rfl
   |cons x l a=>
    intro m;rw[yc6];rcases a (if m<x then x else m)with e|e
    ·rw[e];split
     ·exact .inr zX9
     ·exact .inl rfl
    ·exact .inr (zX8 _ e)
  rcases key ds d with e|e
  ·show List.foldl _ d ds∈_;rw[e];exact zX9
  ·exact zX8 _ e
theorem qp (ds:List PyData){a:Int}(h:0<=a):cutD ds (some a) none=ds.drop a.toNat:=by
 obtain⟨n,rfl⟩:=z50 h;unfold cutD;rw[HT.jF,HT.sP,ya0];rcases Nat.le_total n ds.length with z|z
 ·rw[Nat.min_eq_left z,List.take_of_length_le (by rw[ya9];exact zX7 _)]
 ·rw[Nat.min_eq_right z,List.drop_eq_nil_of_le (zX7 _),List.drop_eq_nil_of_le z,List.take_nil]
theorem rC (ds:List PyData):cutD ds none (some (-1))=ds.take (ds.length-1):=by
 unfold cutD;rw[HT.sP];have:HT.sIx ds.length ds.length (some (-1))=ds.length-1:=by
  show(if(-1:Int)<0 then((-1:Int)+(ds.length:Int)).toNat else min (-1:Int).toNat ds.length)=_;rw[if_pos (by decide)]
  lia
 rw[this,List.drop_zero,Nat.sub_zero]
theorem aA (f:Int->Int)(c:Int)(n:Nat):fC (cutD (((zo c (n+1)).map f).map PyData.int) none (some (-1))) (cutD (((zo c (n+1)).map f).map PyData.int) (some 1) none)=(zo c n).map λd=>.tuple [.int (f d),.int (f (d+1))]:=by
 rw[rC,qp _ (by decide)];unfold fC;refine List.ext_getElem? λj=>?_;rw[List.getElem?_zipWith];simp only[zX0,zd,List.getElem?_take,yg7,zY3];by_cases h:j<n
 ·rw[if_pos (by omega),zU (by lia),zU h,show(1:Int).toNat+j=j+1 from by rw[Nat.add_comm];rfl,zU (by lia)];show some _=some _;rw[show c+((j+1:Nat):Int)=c+(j:Nat)+1 by omega]
 ·rw[if_neg (by omega),z85 (l:=zo c n) (by rw[zd];exact z66 h)];rfl
section
variable {co:Co}{N:Nat}
def zm8 (W:List Way):Int:=ua (rE W)
def hW (W:List Way)(d:Int):Int:=qW W (zm8 W) d
def xM (W:List Way)(c:Int)(n:Nat):List Int:=(zo c n).map λd=>hW W (d+1)-hW W d
theorem wu {W:List Way}{d x:Int}{l:Option Part}(h:yg W d=some (x,l)):hW W d=x:=by unfold hW qW;rw[h]
theorem tQ {W:List Way}{d:Int}(h:yg W d=none):hW W d=zm8 W:=by unfold hW qW;rw[h]
theorem zN8 (W:List Way)(d:Int):hW W d<=zm8 W:=by
 cases e:yg W d with
 |none=>rw[tQ e];exact z77 _
 |some p=>
  rw[wu (x:=p.1) (l:=p.2) e];exact zh9 (z06.mpr ⟨_,find_some (x:=p.1) (l:=p.2) e,rfl⟩)
theorem fw (W:List Way)(c:Int)(n:Nat):(xM W c n).length=n:=by unfold xM;rw[zX0,zd]
theorem gu (W:List Way)(c:Int)(n:Nat):(xM W c n).sum=hW W (c+n)-hW W c:=zD7 _ _ _
theorem gZ {W:List Way}{c:Int}{n i k:Nat}(h:i+k<=n):(((xM W c n).drop i).take k).sum=hW W (c+i+k)-hW W (c+i):=by
 unfold xM;rw[<-List.map_drop,<-List.map_take,zD6 c h,zD7]
theorem wj.zero {c:Int}{k:Nat}{W:List Way}(h:wj co N c k W):yg W c=some (0,none):=h.find (by
 obtain⟨r,rfl,_⟩:=h.first;exact zX9)
theorem wj.had {c:Int}{k:Nat}{W:List Way}(h:wj co N c k W){x:Int}{l:Option Part}(e:yg W (c+k)=some (x,l)):zl9 co N c (c+k) x:=by
 have hw:=find_some e;refine⟨⟨_,h.back k hw (zS7)⟩,λy ps d=>?_⟩;obtain⟨w,a,e1,b⟩:=h.least _ rfl d (z77 _);have:=h.uniq hw a e1.symm;rw[show x=w.2.1 by rw[<-this]];exact b
theorem wj.off {c:Int}{k:Nat}{W:List Way}(h:wj co N c k W)(e:yg W (c+k)=none){z:Int}{ps:List Part}:¬Cut co N c (c+k) z ps:=λa=>by
 obtain⟨w,hw,e1,_⟩:=h.least _ rfl a (z77 _);exact find_none e w hw e1
def yo (p:Part):PyData:=.tuple [.int p.1,.int p.2.1,.int p.2.2]
def za1 :Option Part->PyData
 |none=>.none
 |some p=>yo p
def tm (w:Way):PyData×PyData:=(.int w.1,.tuple [.int w.2.1,za1 w.2.2])
def wA (p:Int×Part):PyData:=.tuple [.int p.1,yo p.2]
theorem yW (d:Int):∀W:List Way,ug (W.map tm) (.inl d)=(yg W d).map λp=>.tuple [.int p.1,za1 p.2]
 |[]=>rfl
 |w::W=>by
  rw[zZ2];unfold tm;rw[ug];unfold yg;rw[z54];show(if decide (w.1=d)=true then _ else _)=_;by_cases h:w.1=d
  ·rw[z02 h,if_pos rfl];rfl
  ·rw[zZ7 h,if_neg (by decide)];exact yW d W
theorem aM {W:List Way}{d x:Int}{l:Option Part}(h:yg W d=none):putD (W.map tm) (.inl d) (.tuple [.int x,za1 l])=(W++[(d,x,l)]).map tm:=by
 unfold putD;rw[yW,h,Option.map_none,if_neg (by decide),z22];rfl
theorem zb6 (p q:Part):PyData.eqv (yo p) (yo q)=decide (p=q):=by
 obtain⟨a,b,n⟩:=p;obtain⟨d,e,c⟩:=q;have:PyData.eqv (yo (a,b,n)) (yo (d,e,c))=(decide (a=d)&&(decide (b=e)&&(decide ((n:Int)=c)&&true))):=by
  rw[<-vQ,<-vQ,<-vQ];rfl
 rw[this];by_cases h1:a=d<;>by_cases h2:b=e<;>by_cases h3:n=c<;>simp[h1,h2,h3]<;>lia
theorem zd9 (p q:Part):ltD (yo p) (yo q)=some (ltQ p q):=by
 obtain⟨a,b,n⟩:=p;obtain⟨d,e,c⟩:=q;unfold yo ltD;simp only[mY,vQ,ltQ];by_cases h1:a=d
 ·subst h1;by_cases h2:b=e
  ·subst h2;by_cases h3:(n:Int)=c
   ·have:n=c:=(zV7 h3);subst this;simp
   ·simp only[decide_true,z92,zZ7 h3,z25,z65,ltD,ye3,decide_false,yh0,yb6];rw[show decide ((n:Int)<c)=decide (n<c) by by_cases h:n<c<;>simp[h]]
  ·simp only[decide_true,z92,zZ7 h2,z25,z65,ltD,ye3,decide_false,yh0,yb6,ya3,yb4]
 ·simp only[zZ7 h1,z25,z65,ltD,ya3,yb4]
theorem za6 (p q:Int×Part):ltD (wA p) (wA q)=some (ltP p q):=by
 obtain⟨z,p⟩:=p;obtain⟨y,q⟩:=q;unfold wA ltD;simp only[mY,vQ,ltP,zb6];by_cases h1:z=y
 ·subst h1;by_cases h2:p=q
  ·subst h2;simp[ltQ]
  ·simp only[decide_true,z92,zZ7 h2,z25,z65,zd9,ye3,decide_false,yh0,yb6]
 ·simp only[zZ7 h1,z25,z65,ltD,ya3,yb4]
theorem zi3 :∀{ds:List (Int×Part)},ds≠[]->minD (ds.map wA)=wA (ke ds)
 |[],h=>absurd rfl h
 |d::ds,_=>by
  show List.foldl _ (wA d) (ds.map wA)=wA (List.foldl _ d ds);rename_i b;clear b
  induction ds generalizing d with
  |nil=>rfl
  |cons x ds a=>
   rw[zZ2,yc6,yc6,za6];show List.foldl _ (if ltP x d=true then wA x else wA d) _=_;rw[<-a];split<;>rfl
theorem aG (ds:List (Int×Part)):zG9 (ds.map wA):=λx a y hy=>by
 obtain⟨p,_,rfl⟩:=z06.mp a;obtain⟨q,_,rfl⟩:=z06.mp hy;rw[za6];rfl
def nO (co:Co)(N:Nat)(c g:Int):PyData:=
 match yg (yb co N c (g-c).toNat) g with
 |none=>.tuple [.str "off",.list ((yb co N c (g-c).toNat).map λw=>.int w.1)]
 |some (x,_)=>.tuple [.str "had",.int x,.list ((wB (yb co N c (g-c).toNat) c (g-c).toNat g).reverse.map yo),.list ((xM (yb co N c (g-c).toNat) c (g-c).toNat).map .int)]
end
section
variable {X:Cx}{α:Ev}{a b e:Expr}{pos p:Pos}{Q:PyData->Prop}
theorem fits_of {ns:List Int}{B:Int}(h:∀n∈ns,-B<=n/\n<=B)(hb:0<=B)(d:B<=1000000000000000)(c:ns.length<=1000):(∀n∈ns,-(2 ^ 62)<=n/\n<2 ^ 62)/\Fits ns:=by
 refine⟨λn hn=>by have:=h n hn;lia,λk hk=>?_⟩;have key:∀l:List Int,(∀n∈l,-B<=n/\n<=B)->-(B*l.length)<=l.sum/\l.sum<=B*l.length:=by
  intro l
  induction l with
  |nil=>intro _;simp
  |cons x l f=>
   intro c;have h1:=c x zX9;have h2:=f λn hn=>c n (zX8 _ hn);rw[z59,zY7,yf9,Int.mul_add];simp only[Int.natCast_one,Int.mul_one]
   lia
 have h1:=key (ns.take k) λn hn=>h n (yb3 hn);have h2:B*((ns.take k).length:Int)<=1000000000000000*1000:=Int.mul_le_mul d (by rw[z35];exact zJ0 c) (yc8 _) (by decide)
 lia
theorem zn2 (B:Int)(d:X.calm=true)(hg:Gl X "sum")(hm:X.mg "sum"=none)(h:EvD X α e λx=>∃ns:List Int,x=.list (ns.map .int)/\(∀n∈ns,-B<=n/\n<=B)/\ns.length<=1000/\Q (.int ns.sum))(hb:0<=B/\B<=1000000000000000:=by decide)(he:starEach [e] X.env=(false,eval e X.env)::starEach [] X.env:=by rfl):
  EvD X α (.Call (.Name "sum" p) [e] [] pos) Q:=
 pR d hg hm (h.imp λx c=>by obtain⟨ns,e1,h1,h2,q⟩:=c;exact⟨ns,e1,(fits_of h1 hb.1 hb.2 h2).1,(fits_of h1 hb.1 hb.2 h2).2,q⟩) he
end
section
variable {X:Cx}{α:Ev}{a b c e:Expr}{pos p:Pos}{Q:PyData->Prop}{T:Bool->Prop}
theorem zi8 (h:EvD X α a λx=>EvD X α b λy=>∃i j,x=.int i/\y=.int j/\(if decide (i<=j)=true then EvD X α c λz=>∃k,z=.int k/\Q (.bool (decide (j<k)))else Q (.bool false)))(hm:lastMarks [.LtE,.Lt] [b,c]=false:=by rfl):EvD X α (.Compare a [.LtE,.Lt] [b,c] pos) Q:=nM qq jA hm h
theorem ab (h:EvD X α a λx=>EvD X α b λy=>∃i j,x=.int i/\y=.int j/\(if decide (i<=j)=true then EvD X α c λz=>∃k,z=.int k/\Q (.bool (decide (j<=k)))else Q (.bool false)))(hm:lastMarks [.LtE,.LtE] [b,c]=false:=by rfl):EvD X α (.Compare a [.LtE,.LtE] [b,c] pos) Q:=nM qq qq hm h
theorem eu :OpR X (compareOp .IsNot) (λx y H Q=>∃i j,x=.bl i/\y=.bl j/\Q (.bl (i != j)) H):=by
 intro pins s σ H x y v u Q I f d h;obtain⟨i,j,rfl,rfl,q⟩:=h;cases f;cases d;exact isnot_bool (zy I q rfl)
theorem bQ (h:EvD X α a λx=>EvD X α b λy=>∃i j,x=.bool i/\y=.bool j/\T (i != j)):EvT X α (.Compare a [.IsNot] [b] pos) T:=
 xA eu (yc _) (h.imp λx h=>h.imp λy d=>by obtain⟨i,j,e1,g,q⟩:=d;exact⟨i != j,λp H m l R k f z=>by
  subst e1 g;cases k.bl_inv;cases f.bl_inv;exact⟨i,j,rfl,rfl,z⟩,q⟩)
end
section
variable {X:Cx}{α:Ev}{a b c e:Expr}{pos p p2 pos2:Pos}{Q:PyData->Prop}{T:Bool->Prop}
end
section
variable {X:Cx}{α:Ev}{a b c d e:Expr}{pos p:Pos}{ta tb tc td:TE}{T:Bool->Prop}
def zf4 (r l m:R2)(ta tb tc td:TE):TE:=λσ H Q=>ta σ H λx H1=>tb σ H1 λy q=>r x y q λz f=>∃k,z=.bl k/\
 (if k=true then tc σ f λg n=>l y g n λj h=>∃i,j=.bl i/\(if i=true then td σ h λu o=>m g u o Q else Q (.bl false) h)else Q (.bl false) f)
theorem hV {op g f:CmpOp}{r t i:R2}(ho:OpR X (compareOp op) r)(l:OpR X (compareOp g) t)(m:OpR X (compareOp f) i)(ha:PE X a ta)(hb:PE X b tb)(hc:PE X c tc)(hd:PE X d td)
  (hm:lastMarks [op,g,f] [b,c,d]=false):PT X (.Compare a [op,g,f] [b,c,d] pos) (zs3 (zf4 r t i ta tb tc td)):=by
 intro pins s σ H Q I h;refine isTrue_chain (thn (ha pins s σ H _ I h) λv s1 ⟨x,H1,I1,U,q1⟩=>test_link (thn (hb pins s1 σ H1 _ I1 q1) λu s2 ⟨y,M,N,i,O⟩=>
  thn (ho pins s2 σ M x y v u _ N U i O) λd s3 ⟨z,E,A,P,k,e,q⟩=>?_)) hm
 subst e;cases P;refine z28 ?_;cases k with
 |false=>
  obtain⟨K,j,n⟩:=q;cases j;exact ite_ff ⟨E,A,n⟩
 |true=>
  refine ite_tt (test_link (thn (hc pins s3 σ E _ A q) λC s4 ⟨B,H4,R,F,Z⟩=>thn (l pins s4 σ H4 y B u C _ R i F Z) λd' s5 ⟨z2,D,o,L,k2,e2,w⟩=>?_));subst e2;cases L;refine z28 ?_;cases k2 with
  |false=>
   obtain⟨K,j,n⟩:=w;cases j;exact ite_ff ⟨D,o,n⟩
  |true=>
   refine ite_tt (test_last (thn (hd pins s5 σ D _ o w) λw2 J ⟨z3,W,I6,G,S⟩=>thn (m pins J σ W B z3 C w2 _ I6 F G S) λd' s7 ⟨z4,H7,Y,V,k3,e3,q7⟩=>?_));subst e3;cases V;exact z28 ⟨H7,Y,q7⟩
theorem gJ (h:EvD X α a λx=>EvD X α b λy=>∃i j,x=.int i/\y=.int j/\(if decide (i<=j)=true then EvD X α c λz=>∃k,z=.int k/\(if decide (j<k)=true then EvD X α d λu=>∃m,u=.int m/\T (decide (k<=m))else T false)else T false))(hm:lastMarks [.LtE,.Lt,.LtE] [b,c,d]=false:=by rfl):
  EvT X α (.Compare a [.LtE,.Lt,.LtE] [b,c,d] pos) T:=λF σ H R m k=>by
 refine⟨_,hV qq jA qq zf zf zf zf hm,?_⟩;refine h F σ H _ m λx N H1 w t1 l E=>?_;have m1:=m.kz l t1;refine w F σ H1 _ m1 λy P s B r g D=>?_;obtain⟨i,j,e1,G,hq⟩:=B;subst e1 G;cases E.int_inv;cases D.int_inv;have m2:=m1.kz g r;refine⟨i,j,rfl,rfl,_,rfl,?_⟩;cases hg:decide (i<=j)with
 |true=>
  rw[hg,if_pos rfl]at hq;refine rF ?_;refine hq F σ s _ m2 λz O t A t3 n C=>?_;have m3:=m2.kz n t3;obtain⟨q,rfl,f⟩:=A;cases C.int_inv;refine⟨j,q,rfl,rfl,_,rfl,?_⟩;cases hg2:decide (j<q)with
  |true=>
   rw[hg2,if_pos rfl]at f;refine rF ?_;refine f F σ t _ m3 λu Q J M v L K=>?_;obtain⟨I,rfl,o⟩:=M;cases K.int_inv;exact⟨q,I,rfl,rfl,_,rfl,k _ J o v (((l.trans g).trans n).trans L)⟩
  |false=>
   rw[hg2,if_neg (by decide)]at f;exact sH ⟨_,rfl,k _ t f t3 ((l.trans g).trans n)⟩
 |false=>
  rw[hg,if_neg (by decide)]at hq;exact sH ⟨_,rfl,k _ s hq r (l.trans g)⟩
end
theorem bj {X:Cx}{α:Ev}{e tg:Expr}{Q:List PyData->Prop}(h:EvD X α e λx=>∃ds,x=.tuple ds/\Q ds):EvI X α tg e Q:=λF σ H R m k=>by
 refine⟨_,zx8 zf,?_⟩;refine h F σ H _ m λx o H1 f t1 g j=>?_;obtain⟨ds,rfl,q⟩:=f;obtain⟨a,xs,rfl,h1,h2⟩:=j.tup_inv;refine⟨a,rfl,⟨xs,SqT.of (zc h1).2⟩,k ds _ H1 q t1 g λi n p s=>⟨λd hd=>?_,λc=>?_⟩⟩
 ·obtain⟨x,b,av⟩:=h2.get hd;have ha:=SqT.of (K:=X.K) (zc (s _ _ h1)).2;refine⟨⟨xs,x,ha,b⟩,λl r y=>?_⟩;obtain⟨e,y⟩:=y;subst e;have:=y xs ha;rw[b]at this;cases this;exact⟨zz.refl _,λ_=>av.same s⟩
 ·exact⟨xs,SqT.of (zc (s _ _ h1)).2,by rw[h2.length];exact c⟩
theorem zS8 (ns zs:List Int):∃ms,tu ns zs ms:=by
 refine⟨ns.mergeSort λm k=>!lx (keyOf zs k) (keyOf zs m),List.mergeSort_perm ..,?_⟩;have h:=List.pairwise_mergeSort (le:=λm k=>!lx (keyOf zs k) (keyOf zs m)) (λa b c h1 h2=>?_) (λa b=>?_) ns
 ·exact h.imp λ{a b} h=>by simpa using h
 ·simp only[ya1]at h1 h2 ⊢;unfold lx at *;simp only[z38]at *
  lia
 ·unfold lx;simp only[z83,ya1,z38]
  lia
theorem cM {ns zs ms ks:List Int}(h:tu ns zs ms)(h':tu ns zs ks):ms=ks:=by
 refine List.Perm.eq_of_pairwise (le:=λm k=>lx (keyOf zs k) (keyOf zs m)=false) (λa b _ _ h1 h2=>?_) h.2 h'.2 (h.1.trans h'.1.symm);unfold lx keyOf at h1 h2;simp only[z38]at h1 h2
 lia
theorem zg6 {zs:List Int}{many free:Nat}{bs cs:List Bool}(h:0<many)(m:tw zs many free zs.length bs)(a:tw zs many free zs.length cs):bs=cs:=by
 have e:∀j,bs.getD j false=cs.getD j false:=λj=>by
  by_cases b:zs.length / many*many<=j
  ·rw[m.2.1 j b,a.2.1 j b]
  ·have hk:j / many<zs.length / many:=by
    have:=Nat.div_lt_iff_lt_mul (k:=many) (x:=j) (y:=zs.length / many) h;exact this.mpr (Nat.lt_of_not_le b)
   obtain⟨ms,s,f⟩:=m.2.2 _ hk;obtain⟨ks,s',c⟩:=a.2.2 _ hk;cases cM s s';have d:=z84 j many;have l:=Nat.mod_lt j h;have g:j / many*many=many*(j / many):=yf6 _ _;obtain⟨q,hq,eq⟩:=zE5 s (m:=(j:Int)) (by lia) (by lia);have h1:=f q hq;have h2:=c q hq;rw[eq,ya0]at h1 h2;rw[h1,h2]
 refine List.ext_getElem (by rw[m.1,a.1]) λj h1 h2=>?_;have:=e j;rw[zY2,zY2,zX3 h1,zX3 h2]at this;exact this
theorem ak {d:PyData}(hd:zd0 d){zs:List Int}{bs cs:List Bool}(h:wD d zs bs)(h':wD d zs cs):bs=cs:=by
 rcases hd with rfl|⟨many,free,rfl,f0,a,_⟩
 ·rcases h with⟨_,rfl⟩|⟨_,_,h,_⟩
  ·rcases h' with⟨_,rfl⟩|⟨_,_,h,_⟩
   ·rfl
   ·cases h
  ·cases h
 ·exact zg6 (zZ5 (zY9 _) a) (my h) (my h')
section
variable {X:Cx}{α:Ev}{a b c d e:Expr}{pos p:Pos}{T:Bool->Prop}
theorem de {ns:List Int}(h:∀n∈ns,-300000000000000000<=n/\n<=300000000000000000)(f:ns.length<=14):(∀n∈ns,-(2 ^ 62)<=n/\n<2 ^ 62)/\Fits ns:=by
 refine⟨λn hn=>by have:=h n hn;lia,λk hk=>?_⟩;have key:∀l:List Int,(∀n∈l,-300000000000000000<=n/\n<=300000000000000000)->-(300000000000000000*l.length)<=l.sum/\l.sum<=300000000000000000*l.length:=by
  intro l
  induction l with
  |nil=>intro _;simp
  |cons x l g=>
   intro f;have h1:=f x zX9;have h2:=g λn hn=>f n (zX8 _ hn);rw[z59,zY7,yf9]
   lia
 have h1:=key (ns.take k) λn hn=>h n (yb3 hn);have h2:((ns.take k).length:Int)<=14:=by rw[z35];lia
 lia
theorem zo3 {Q:PyData->Prop}(g:X.calm=true)(hg:Gl X "sum")(hm:X.mg "sum"=none)(h:EvD X α e λx=>∃ns:List Int,x=.list (ns.map .int)/\(∀n∈ns,-300000000000000000<=n/\n<=300000000000000000)/\ns.length<=14/\Q (.int ns.sum))(he:starEach [e] X.env=(false,eval e X.env)::starEach [] X.env:=by rfl):
  EvD X α (.Call (.Name "sum" p) [e] [] pos) Q:=
 pR g hg hm (h.imp λx f=>by obtain⟨ns,e1,h1,h2,q⟩:=f;exact⟨ns,e1,(de h1 h2).1,(de h1 h2).2,q⟩) he
end
abbrev qE (X:Cx)(P:Program)(w:World)(K:PySem.W.Frag)(mg:Str->Option Value)(base:Heap):Prop:=X.prog=P/\X.w=w/\X.K=K/\X.mg=mg/\X.base=base
section
variable {X:Cx}{α:Ev}{e o:Expr}{es:List Expr}{pos p apos:Pos}{Q:PyData->Prop}{k:Nat}{φ:List A->(A->Prop)->Prop}{x m:Str}{C:Addr}{pl:Sem Bool}{P:Program}{w:World}{K:PySem.W.Frag}{mg:Str->Option Value}{base:Heap}
theorem ze4 (D:Cal P w K mg base x k φ)(c:qE X P w K mg base)(hr:zM k X.A)(hg:Gl X x)(h:EvA X α (e::es) λas=>φ as λa=>Q a.d)
  (b:(x == ("__debug__":Str))=false:=by decide) (he:starEach (e::es) X.env=(false,eval e X.env)::starEach es X.env:=by rfl) (hpl:(backTo pos (starEach es X.env)).any (·.1)=false:=by rfl):EvD X α (.Call (.Name x p) (e::es) [] pos) Q:=by
 obtain⟨rfl,rfl,rfl,rfl,rfl⟩:=c;exact vA D hr hg h b he hpl
theorem zo0 {Q:List PyData->Prop}(D:Cal P w K mg base x k φ)(c:qE X P w K mg base)(hr:zM k X.A)(hg:Gl X x)(h:EvA X α (e::es) λas=>φ as λa=>∃ds,a=.own ds/\Q ds)
  (b:(x == ("__debug__":Str))=false:=by decide) (he:starEach (e::es) X.env=(false,eval e X.env)::starEach es X.env:=by rfl) (hpl:(backTo pos (starEach es X.env)).any (·.1)=false:=by rfl):EvL X α (.Call (.Name x p) (e::es) [] pos) Q:=by
 obtain⟨rfl,rfl,rfl,rfl,rfl⟩:=c;exact wJ D hr hg h b he hpl
theorem bp (D:vH P w K mg base x k [] φ)(c:qE X P w K mg base)(hr:zM (k+1) X.A)(hg:Gl X x)(h:EvA X α (e::es) λas=>φ as λa=>Q a.d)
  (b:(x == ("__debug__":Str))=false:=by decide) (he:starEach (e::es) X.env=(false,eval e X.env)::starEach es X.env:=by rfl) (hpl:(backTo pos (starEach es X.env)).any (·.1)=false:=by rfl):EvN X α (.Call (.Name x p) (e::es) [] pos) Q:=by
 obtain⟨rfl,rfl,rfl,rfl,rfl⟩:=c;exact zj0 D hr hg h b he hpl
theorem bC (D:xh P w K mg base C m k φ)(g:qE X P w K mg base)(hr:zM k X.A)(h:EvD X α o λx=>∃fs,x=xH C fs/\ux fs m=none/\EvA X α (e::es) λas=>φ (.dat (xH C fs)::as) λa=>Q a.d)
  (b:starEach (e::es) X.env=(false,eval e X.env)::starEach es X.env:=by rfl) (hpl:(backTo pos (starEach es X.env)).any (·.1)=false:=by rfl)
  (c:eval (.Call (.Attribute o m apos) (e::es) [] pos) X.env=(do
   let ov <-eval o X.env
   standAt apos.atName
   let(f,first) <-holding [ov] (getMethod ov m pl)
   callWith pos f first (backTo pos (starEach (e::es) X.env)) (backToKw pos (keywordEach [] X.env))):=by rfl):EvD X α (.Call (.Attribute o m apos) (e::es) [] pos) Q:=by
 obtain⟨rfl,rfl,rfl,rfl,rfl⟩:=g;exact ve D hr h b hpl c
theorem iY (D:xh P w K mg base C m k φ)(c:qE X P w K mg base)(hr:zM k X.A)(h:EvD X α o λx=>∃fs,x=xH C fs/\ux fs m=none/\φ [.dat (xH C fs)] λa=>Q a.d)
  (b:eval (.Call (.Attribute o m apos) [] [] pos) X.env=(do
   let ov <-eval o X.env
   standAt apos.atName
   let(f,first) <-holding [ov] (getMethod ov m pl)
   callWith pos f first (backTo pos (starEach [] X.env)) (backToKw pos (keywordEach [] X.env))):=by rfl):EvD X α (.Call (.Attribute o m apos) [] [] pos) Q:=by
 obtain⟨rfl,rfl,rfl,rfl,rfl⟩:=c;exact rB D hr h b
theorem fX {Q:List PyData->Prop}(D:xh P w K mg base C m k φ)(c:qE X P w K mg base)(hr:zM k X.A)(h:EvD X α o λx=>∃fs,x=xH C fs/\ux fs m=none/\φ [.dat (xH C fs)] λa=>∃ds,a=.own ds/\Q ds)
  (b:eval (.Call (.Attribute o m apos) [] [] pos) X.env=(do
   let ov <-eval o X.env
   standAt apos.atName
   let(f,first) <-holding [ov] (getMethod ov m pl)
   callWith pos f first (backTo pos (starEach [] X.env)) (backToKw pos (keywordEach [] X.env))):=by rfl):EvL X α (.Call (.Attribute o m apos) [] [] pos) Q:=by
 obtain⟨rfl,rfl,rfl,rfl,rfl⟩:=c;exact bM D hr h b
end
section
variable {X:Cx}{α:Ev}{pos:Pos}{Q:PyData->Prop}
end
section
variable {X:Cx}{α:Ev}{e ix:Expr}{pos:Pos}{rest:List Stmt}{E:xf}
end
section
variable {X:Cx}{α:Ev}{a b e tg:Expr}{p pos apos:Pos}{Q:PyData->Prop}
theorem zm0 (hg:Gl X "str")(hm:X.mg "str"=none)(h:EvD X α e λx=>∃i:Int,x=.int i/\i.natAbs.log2<1920/\Q (.str (toString i)))(he:starEach [e] X.env=(false,eval e X.env)::starEach [] X.env:=by rfl):
  EvD X α (.Call (.Name "str" p) [e] [] pos) Q:=λF σ H R m k=>by
 refine⟨_,yF pe hg hm boot_str (zr zf zD he) (he:=he),?_⟩;refine h F σ H _ m λx g H1 f t1 c d=>?_;obtain⟨i,rfl,hz,q⟩:=f;cases d.int_inv;exact⟨i,rfl,hz,k _ _ H1 q t1 c (.str _)⟩
theorem rW :yE X (.type "int") (λxs H Q=>∃x n,xs=[.str x]/\PySem.intText? x=some n/\x.length<=640/\Q (.int n) H):=by
 intro pins s σ H xs us Q I r h;obtain⟨x,n,rfl,hn,c,q⟩:=h;obtain⟨u,rfl,t,rfl⟩:=vals1 r;exact PySem.W.KIN.call_text hn c ⟨.int n,H,I.tok _,⟨_,rfl⟩,q⟩
theorem kN (hg:Gl X "int")(hm:X.mg "int"=none)(h:EvD X α e λx=>∃z n,x=.str z/\PySem.intText? z=some n/\z.length<=640/\Q (.int n))(he:starEach [e] X.env=(false,eval e X.env)::starEach [] X.env:=by rfl):
  EvD X α (.Call (.Name "int" p) [e] [] pos) Q:=λF σ H R m k=>by
 refine⟨_,yF rW hg hm boot_int (zr zf zD he) (he:=he),?_⟩;refine h F σ H _ m λx i H1 g t1 d f=>?_;obtain⟨z,n,rfl,hn,c,q⟩:=g;cases f.str_inv;exact⟨z,n,rfl,hn,c,k _ _ H1 q t1 d (.int _)⟩
theorem zG4 (l:tE b)(h:EvD X α a λx=>EvD X α b λy=>∃z i c,x=.str z/\y=.int i/\z.length<=sizeLine/\atI z.cps.toList i=some c/\Q (.str ⟨#[c]⟩)):EvD X α (.Subscript a b pos) Q:=λF σ H R m k=>by
 refine⟨_,yx zb4 zf zf l,?_⟩;refine h F σ H _ m λx v H1 r t1 d o=>?_;have m1:=m.kz d t1;refine r F σ H1 _ m1 λy u s f g n j=>?_;obtain⟨z,i,c,rfl,rfl,hz,t,q⟩:=f;cases o.str_inv;cases j.int_inv;exact⟨z,i,c,rfl,rfl,hz,t,k _ _ s q g (d.trans n) (.str _)⟩
theorem zd1 {x:Str}{z:Str}(hg:Gl X x)(hm:∃t,X.mg x=some (.str z t))(q:Q (.str z))(hd:(x == ("__debug__":Str))=false:=by decide):EvD X α (.Name x pos) Q:=λF σ H R m k=>by
 obtain⟨t,hm⟩:=hm;exact⟨_,jB hg hm (show RelV (.str z) _ from⟨t,rfl⟩) hd,k _ _ H q m.tp Kz.refl (.str _)⟩
theorem zx9 (h:EvD X α a λx=>EvD X α b λy=>∃i j,x=.str i/\y=.str j/\Q (.bool (!(Builtin.Str.occurrences j i 0 j.length 1).isEmpty)))(hm:behindInMarks .In b=false:=by rfl):EvD X α (.Compare a [.In] [b] pos) Q:=λF σ H R m k=>by
 refine⟨_,tG fG zf zf hm,?_⟩;refine h F σ H _ m λx t H1 o t1 c n=>?_;have m1:=m.kz c t1;refine o F σ H1 _ m1 λy s r d f l g=>?_;obtain⟨i,j,rfl,rfl,q⟩:=d;cases n.str_inv;cases g.str_inv;exact⟨i,j,rfl,rfl,k _ _ r q f (c.trans l) (.bl _)⟩
theorem zk8 (hg:Gl X "tuple")(hm:X.mg "tuple"=none)(h:EvD X α e λx=>∃ds,x=.list ds/\Q (.tuple ds))(he:starEach [e] X.env=(false,eval e X.env)::starEach [] X.env:=by rfl):
  EvD X α (.Call (.Name "tuple" p) [e] [] pos) Q:=λF σ H R m k=>by
 refine⟨_,yF qg hg hm boot_tuple (zr zf zD he) (he:=he),?_⟩;refine h F σ H _ m λx j H1 g t1 d f=>?_;obtain⟨ds,rfl,q⟩:=g;have m1:=m.kz d t1;obtain⟨l,xs,rfl,h1,h2⟩:=f.lst_inv;refine⟨_,xs,rfl,.inl ⟨SqL.of (zc h1).2,λi c=>?_⟩⟩;exact k _ _ _ q (t1.same (ye c)) (d.trans (Kz.of_same (ye c))) (.tup (xs:=xs) (zA (m1.fresh c) zi) (h2.same (zq λa o ha e=>⟨ha,by rw[zb (zj e c)];exact e⟩)))
theorem qw :∀{ts:List Str}{us:List Value},Vals (ts.map .str) us->∃l:List (Str×Tok),us=strValues l/\l.map (·.1)=ts
 |[],_,.nil=>⟨[],rfl,rfl⟩
 |x::r,_,.cons h q=>by
  obtain⟨t,rfl⟩:=h;obtain⟨l,rfl,rfl⟩:=qw q;exact⟨(x,t)::l,rfl,rfl⟩
theorem AVs.strs {H:Hp}:∀{xs:List V}{ts:List Str},AVs H xs (ts.map .str)->xs=ts.map V.str
 |_,[],.nil=>rfl
 |_,b::bs,.cons h r=>by rw[h.str_inv,AVs.strs r];rfl
theorem zk5 :MtM X "str.join" (λx xs H Q=>∃i l ts,x=.str i/\xs=[.ref l]/\SqL X.K H l (ts.map .str)/\JoinOk i ts=true/\Q (.str (Txt.join i ts)) H):=by
 intro pins s σ H x xs v us Q I j m h;obtain⟨i,l,ts,rfl,rfl,hq,f,q⟩:=h;obtain⟨t,rfl⟩:=j;obtain⟨u,rfl,g⟩:=vals1 m;cases g;obtain⟨c,d,pl,hz⟩:=I.list hq;obtain⟨n,rfl,e⟩:=qw d;exact SC.join pl.isList e f λt' k=>⟨.str _,H,I.tok _,⟨_,rfl⟩,q⟩
theorem iq (h:EvD X α a λx=>∃i,x=.str i/\EvD X α e λy=>∃ts,y=.list (ts.map .str)/\JoinOk i ts=true/\Q (.str (Txt.join i ts)))(d:attributeBase a "join" X.env (eval a X.env)=eval a X.env:=by rfl)(c:(apos.endLine == pos.line)=true:=by rfl)
  (he:starEach [e] X.env=(false,eval e X.env)::starEach [] X.env:=by rfl) (f:((backTo pos (starEach (e::[]) X.env)).all (λx=>!x.1)&&(backToKw pos (keywordEach [] X.env)).all (λx=>x.1.isSome)
   &&decide ((e::[]).length+([]:List Keyword).length+(if([]:List Keyword).isEmpty then 0 else 1)<30))=true:=by rfl):EvD X α (.Call (.Attribute a "join" apos) [e] [] pos) Q:=λF σ H R m k=>by
 refine⟨_,kW PySem.F.plainAttrs_str PySem.F.slot_str_join PySem.F.type_str_join zk5 zf (zr zf zD he) d f c he rfl,?_⟩;refine h F σ H _ m λx z H1 g t1 j u=>?_;have m1:=m.kz j t1;obtain⟨i,rfl,g⟩:=g;cases u.str_inv;refine⟨rfl,?_⟩;refine g F σ H1 _ m1 λy w v n o t r=>?_;obtain⟨ts,rfl,s,q⟩:=n;obtain⟨l,xs,rfl,h1,h2⟩:=r.lst_inv;cases h2.strs;exact⟨i,l,ts,rfl,rfl,SqL.of (zc h1).2,s,k _ _ v q o (j.trans t) (.str _)⟩
theorem qu :∀(l:List (Str×Tok)),Vals ((l.map (·.1)).map V.str) (strValues l)
 |[]=>.nil
 |p::r=>.cons ⟨p.2,rfl⟩ (qu r)
theorem cW :MtM X "str.split" (λx xs H Q=>∃i j,x=.str i/\xs=[.str j]/\(j.length == 0)=false/\i.length+2<=sizeLine/\∀l,H l=none->Q (.ref l) (upd H l (.lst ((Txt.split i j).map .str)))):=by
 intro pins s σ H x xs v us Q I f g h;obtain⟨i,j,rfl,rfl,c,hi,q⟩:=h;obtain⟨t,rfl⟩:=f;obtain⟨u,rfl,t',rfl⟩:=vals1 g;have d:(Txt.split i j).length<=sizeLine:=zY1 (split_le i j) hi;have fin:∀(l:List (Str×Tok)) (tk:Nat),l.map (·.1)=Txt.split i j->EP X pins σ Q (.ref s.heap.objs.size) {s with heap:=s.heap.push {cls:=.type "list",data:=.seq (strValues l).toArray},toks:=tk}:=λl tk e=>
  ⟨.ref s.heap.objs.size,_,I.laid (t':=tk) (λb o e=>zX2 _ e) (zX7 _) (show zE X.prog X.w _ _ _ (.lst ((Txt.split i j).map .str))from⟨by rw[zX0];exact d,_,_,by rw[<-e];exact qu l,zY5 _ rfl⟩),rfl,q _ (I.hok.fresh (zX7 _))⟩
 cases h1:(decide (i.length<j.length)||decide (Builtin.Str.strKind i<Builtin.Str.strKind j))
 ·cases hf:(Builtin.Str.occurrences i j 0 i.length (i.length+1)).isEmpty
  ·have e:Builtin.Str.partsBetween i (Builtin.Str.occurrences i j 0 i.length (i.length+1)) j.length=Txt.split i j:=by rw[Txt.split,if_neg (yg2 h1),if_neg (yg2 hf)]
   refine call_meets z98 (typeIs_str _ _ _) yd9 (yd3 _ _) (meets_str_split_sep i j t t' h1 c hf (by omega) (by rw[e];exact d)) ?_;rw[e,strsFrom_eq];exact fin (numbered s.toks _) _ (numbered_texts _ _)
  ·exact call_meets z98 (typeIs_str _ _ _) yd9 (yd3 _ _) (meets_str_split_not_found i j t t' h1 c hf)
    (fin [(i,t)] s.toks (by rw[Txt.split,if_neg (yg2 h1),if_pos hf];rfl))
 ·exact call_meets z98 (typeIs_str _ _ _) yd9 (yd3 _ _) (meets_str_split_cannot_occur i j t t' h1)
   (fin [(i,t)] s.toks (by rw[Txt.split,if_pos h1];rfl))
theorem AVs.of_strs {H:Hp}:∀(ts:List Str),AVs H (ts.map V.str) (ts.map .str)
 |[]=>.nil
 |x::r=>.cons (.str x) (AVs.of_strs r)
theorem oF {Q:List PyData->Prop}(h:EvD X α a λx=>∃i,x=.str i/\EvD X α e λy=>∃j,y=.str j/\(j.length == 0)=false/\i.length+2<=sizeLine/\Q ((Txt.split i j).map .str))(d:attributeBase a "split" X.env (eval a X.env)=eval a X.env:=by rfl)(c:(apos.endLine == pos.line)=true:=by rfl)
  (he:starEach [e] X.env=(false,eval e X.env)::starEach [] X.env:=by rfl) (f:((backTo pos (starEach (e::[]) X.env)).all (λx=>!x.1)&&(backToKw pos (keywordEach [] X.env)).all (λx=>x.1.isSome)
   &&decide ((e::[]).length+([]:List Keyword).length+(if([]:List Keyword).isEmpty then 0 else 1)<30))=true:=by rfl):EvL X α (.Call (.Attribute a "split" apos) [e] [] pos) Q:=λF σ H R m k=>by
 refine⟨_,kW PySem.F.plainAttrs_str z98 PySem.F.type_str_split cW zf (zr zf zD he) d f c he rfl,?_⟩;refine h F σ H _ m λx z H1 l t1 n v=>?_;have m1:=m.kz n t1;obtain⟨i,rfl,l⟩:=l;cases v.str_inv;refine⟨rfl,?_⟩;refine l F σ H1 _ m1 λy A w t o g u=>?_;have m2:=m1.kz g o;obtain⟨j,rfl,s,hi,q⟩:=t;cases u.str_inv;refine⟨i,j,rfl,rfl,s,hi,λp r=>?_⟩;obtain⟨g1,g2,g3⟩:=m2.lay r (AVs.of_strs (Txt.split i j));exact k _ _ _ q g1 ((n.trans g).trans g2) (g3.back m (n.trans g) o)
def Its (z:Str):It:=⟨λi _=>i<z.cps.size,λi H x H'=>H'=H/\∃c,z.cps[i]?=some c/\x=.str ⟨#[c]⟩,λi _=>z.cps.size<=i⟩
theorem cc {P:Program}{w:World}{K:PySem.W.Frag}{tg:Expr}(z:Str)(t:Tok)(it:Addr):Turn P w K tg (Its z) [it] it (λi h=>h.IsStrIter it "str_ascii_iterator" z t i) where
 mem:=by simp
 obj:=λi h st b hb=>by
  have e:b=it:=by simpa using hb
  subst e;obtain⟨o,e,c,d⟩:=st;exact⟨o,e,λv z=>by rw[d]at z;cases z⟩
 keep:=λi h h' st k=>by
  obtain⟨o,e,c,d⟩:=st;exact⟨o,k it (by simp) o e,c,d⟩
 item:=by
  intro X m hw g q i pins s σ H E I hf st hg;subst m hw g;obtain⟨f0,f1,f2,j,f4,l⟩:=hf it (by simp);have n:z.cps[i]?=some z.cps[i]:=Array.getElem?_eq_getElem hg;refine wpAny_pyNext_ascii_item st n λh' f r=>?_;have x:Inv X pins σ H {s with heap:=h',toks:=s.toks+1}:=I.turned (t':=s.toks+1) (λb o hb e=>(r.2 b hb).trans e) f0 f1 j f4 l;obtain⟨o,e,c,d⟩:=id f;exact⟨_,rfl,rR (s:={s with heap:=h',toks:=s.toks+1}) e c d (by decide) ⟨.str ⟨#[z.cps[i]]⟩,H,x,⟨_,rfl⟩,⟨rfl,_,n,rfl⟩,f,λb hb=>(hf b hb).1⟩⟩
 done:=by
  intro X m hw g q i pins s σ H E I hf st hg;subst m hw g;obtain⟨f0,f1,f2,j,f4,l⟩:=hf it (by simp);exact wpAny_pyNext_ascii_end (I.ok.hd q) st (Array.getElem?_eq_none hg) λh' u=>⟨rfl,I.turned (t':=s.toks) (λb o hb e=>u b o hb e) f0 f1 j f4 l⟩
 self:=λ_ _ _ _ _ st h=>wpAny_pyIter_striter_ascii st h
def zS6 (c:TE):TI:=λσ H R=>c σ H λx H1=>∃z,x=.str z/\z.cps.all (·<128)=true/\R (Its z) H1
theorem zA6 {l:Expr}{d:TE}(g:PE X l d):PI X tg l (zS6 d):=by
 intro pins s σ H R I h;refine thn (g pins s σ H _ I h) λv s1 ⟨x,H1,c,f,i⟩=>?_;obtain⟨z,e,ha,q⟩:=i;subst e;obtain⟨t,rfl⟩:=f;refine wpAny_pyIter_ascii ha ?_;refine⟨s1.heap.objs.size,[s1.heap.objs.size],_,_,H1,rfl,c.kept (t':=s1.toks) λb o e=>zX2 _ e,cc z t _,⟨_,zY5 _ rfl,rfl,rfl⟩,λb hb=>?_,q⟩;have e:b=s1.heap.objs.size:=by simpa using hb
 subst e;exact c.fpOk (zX7 _) (c.hok.fresh (zX7 _))
def sgn (z:Str):List PyData:=z.cps.toList.map λc=>.str ⟨#[c]⟩
theorem zD2 {Q:List PyData->Prop}(h:EvD X α e λx=>∃z,x=.str z/\z.cps.all (·<128)=true/\Q (sgn z)):EvI X α tg e Q:=λF σ H R m k=>by
 refine⟨_,zA6 zf,?_⟩;refine h F σ H _ m λx v H1 o t1 l n=>?_;obtain⟨z,rfl,ha,q⟩:=o;cases n.str_inv;refine⟨z,rfl,ha,k _ _ H1 q t1 l λi u p s=>⟨λd hd=>?_,λg=>?_⟩⟩
 ·rw[sgn,zY3,Array.getElem?_toList]at hd;obtain⟨c,j,rfl⟩:=zZ4.mp hd;obtain⟨hi,_⟩:=yb7.mp j;refine⟨hi,λr t y=>?_⟩;obtain⟨e,c',f,rfl⟩:=y;subst e;rw[j]at f;cases f;exact⟨zz.refl _,λ_=>.str _⟩
 ·rw[sgn,zX0,yc0]at g;exact g
end
section
variable {X:Cx}{α:Ev}{a b e:Expr}{rest:List Expr}{p pos apos:Pos}{Q:PyData->Prop}
def zz9 (c:Bool):PyData->Bool
 |.bool d=>d == c
 |_=>false
def plV :V->Bool
 |.non|.bl _|.int _|.str _|.ref _=>true
 |_=>false
def zP8 (c:Bool):V->Bool
 |.bl d=>d == c
 |_=>false
theorem zF1 :OpR X (compareOp .Is) (λx y H Q=>∃c,y=.bl c/\plV x=true/\Q (.bl (zP8 c x)) H):=by
 intro pins s σ H x y v u Q I f g h;obtain⟨c,rfl,j,q⟩:=h;cases g;cases x with
 |non=>cases f;exact yd5 rfl (zy I q rfl)
 |bl d=>cases f;exact yd5 rfl (zy I q (by cases c<;>cases d<;>rfl))
 |int i=>obtain⟨t,rfl⟩:=f;exact yd5 rfl (zy I q rfl)
 |str i=>obtain⟨t,rfl⟩:=f;exact yd5 rfl (zy I q rfl)
 |ref l=>cases f;exact yd5 rfl (zy I q rfl)
 |_=>cases j
theorem AV.isB {H:Hp}{v:V}{d:PyData}(c:Bool)(h:AV H v d):plV v=true/\zP8 c v=zz9 c d:=by cases h<;>exact⟨rfl,rfl⟩
theorem zD9 {T:Bool->Prop}{j:Nat}{c:Bool}(h:EvD X α a λx=>T (zz9 c x)):EvT X α (.Compare a [.Is] [.Constant (.bool c) j p] pos) T:=
 xA zF1 (yc _) (h.imp λx h=>bE ⟨zz9 c x,λp H i g R d f z=>by
  cases f.bl_inv;exact⟨c,rfl,(d.isB c).1,by rw[(d.isB c).2];exact z⟩,h⟩)
end
theorem oX {c:Nat}:∀{a d r b:List Nat},c∉a->c∉d->a++c::r=d++c::b->a=d/\r=b
 |[],[],r,b,_,_,h=>⟨rfl,(yb8 h).2⟩
 |[],x::d,r,b,_,h2,h=>absurd ((yb8 h).1▸zX9 ..) h2
 |x::a,[],r,b,h1,_,h=>absurd ((yb8 h).1▸zX9 ..) h1
 |x::a,y::d,r,b,h1,h2,h=>by
  obtain⟨e,h⟩:=yb8 h;obtain⟨e1,f⟩:=oX (λz=>h1 (zX8 _ z)) (λz=>h2 (zX8 _ z)) h;exact⟨by rw[e,e1],f⟩
theorem uc {x y:Str}(h:x.cps.toList=y.cps.toList):x=y:=by
 cases x;cases y;congr 1;exact Array.toList_inj.mp h
theorem join_list (c:Nat)(x y:Str)(r:List Str):(Str.join ⟨#[c]⟩ (x::y::r)).cps.toList=x.cps.toList++c::(Str.join ⟨#[c]⟩ (y::r)).cps.toList:=by
 show(x++(⟨#[c]⟩:Str)++Str.join ⟨#[c]⟩ (y::r)).cps.toList=_;rw[ya7,ya7,z52,z52];simp
theorem oE (c:Nat):∀ts a:List Str,(∀p∈ts,c∉p.cps.toList)->(∀p∈a,c∉p.cps.toList)->ts≠[]->a≠[]->Str.join ⟨#[c]⟩ ts=Str.join ⟨#[c]⟩ a->ts=a
 |[],_,_,_,h,_,_=>absurd rfl h
 |_,[],_,_,_,h,_=>absurd rfl h
 |[x],[y],_,_,_,_,h=>by rw[show x=y from h]
 |[x],y::z::r,h1,_,_,_,h=>by
  have e:=congrArg (·.cps.toList) h;rw[join_list]at e;exact absurd (show c∈x.cps.toList from(show x.cps.toList=_ from e)▸z07 _ (zX9 ..)) (h1 x (zX9 ..))
 |x::z::r,[y],_,h1,_,_,h=>by
  have e:=congrArg (·.cps.toList) h;rw[join_list]at e;exact absurd (show c∈y.cps.toList from(show y.cps.toList=_ from e.symm)▸z07 _ (zX9 ..)) (h1 y (zX9 ..))
 |x::z::r,d::f::g,h1,h2,_,_,h=>by
  have e:=congrArg (·.cps.toList) h;rw[join_list,join_list]at e;obtain⟨e1,i⟩:=oX (h1 x (zX9 ..)) (h2 d (zX9 ..)) e;rw[uc e1,oE c (z::r) (f::g) (λp b=>h1 p (zX8 _ b)) (λp b=>h2 p (zX8 _ b)) (by simp) (by simp) (uc i)]
theorem rA (c:Nat)(ts:List Str)(hf:∀p∈ts,c∉p.cps.toList)(hn:ts≠[]):Txt.split (Txt.join ⟨#[c]⟩ ts) ⟨#[c]⟩=ts:=by
 have h:=StrLaws.join_split (Txt.join ⟨#[c]⟩ ts) ⟨#[c]⟩;have e:Txt.join ⟨#[c]⟩ ts=Str.join ⟨#[c]⟩ ts:=z46 _ _;refine oE c _ ts (StrLaws.split_free _ c) hf ?_ hn (h.trans e);intro z;have:=split_pos (Txt.join ⟨#[c]⟩ ts) ⟨#[c]⟩;rw[z]at this;exact absurd this (by decide)
def fig (n:Nat):Str:=toString (n:Int)
theorem ur (n:Nat):(fig n).cps.toList=(Nat.toDigits 10 n).map Char.toNat:=PySem.W.KIN.signs_num n
theorem wz (n:Nat):PySem.NumText.AllDigits (fig n).cps.toList:=by
 intro c b;rw[ur]at b;obtain⟨ch,a,e⟩:=z06.mp b;rw[<-e];exact digit_range (Nat.isDigit_of_mem_toDigits (by decide) (by decide) a)
theorem aN (n:Nat):(fig n).cps.toList≠[]:=by
 rw[ur];intro e;have h:=Nat.length_toDigits_pos (b:=10) (n:=n);rw[yg3.mp e]at h;exact absurd h (by decide)
theorem ia {n k:Nat}(hk:1<=k)(h:n<10 ^ k):(fig n).length<=k:=toString_length_le (by omega) hk (by exact_mod_cast h)
theorem zh1 {n:Nat}(h:n<10 ^ 20):PySem.intText? (fig n)=some (n:Int):=by
 have a:(fig n).length<=20:=ia (by decide) h;have e:=PySem.intText_digits (wz n) (aN n) (zY1 a (by decide));rw[ur,PySem.W.KIN.val_back]at e;exact e
theorem ya.o {N P:List Str}{sc:Scope}(h1:sc.kind=.function:=by rfl)(h2:sc.isCoroutine=false:=by rfl)(h3:sc.isGenerator=false:=by rfl)(c:N.Nodup:=by decide +kernel)(b:N.take P.length=P:=by rfl)(d:∀x∈P,sc.names.lookup x=some .local\/sc.names.lookup x=some .cell:=by decide +kernel)(a:∀y∈sc.names,y.2≠.free:=by decide +kernel):ya N P sc:=⟨h1,h2,h3,c,b,d,a⟩
abbrev Ph :=List A->(A->Prop)->Prop
section
variable {P:Program}{w:World}{K:PySem.W.Frag}{mg:Str->Option Value}{base:Heap}
def FnD (K:PySem.W.Frag)(mg:Str->Option Value)(x:Str)(st:Stmt)(ps:List Str):Prop:=∃f fd,Fun K x x st f fd/\mg x=some (.ref f)/\Binds K fd ps []
theorem zN {x:Str}{st:Stmt}{ps:List Str}{k:Nat}{φ:List A->(A->Prop)->Prop}(N:List Str)(G:FnD K mg x st ps)
  (a:∀(f:Addr) (cdv:Value) (b:Around) (outer:List Env) (s:Shared) (H:Hp) (E:XK) (as:List A) (Q:A->Prop),N.Nodup->zM k (b.deeper (envOfC x (zg st) s.heap.objs.size f cdv))->φ as Q->
   SvS (wW CX0 P w K mg base N x (zg st) f cdv b outer s H E).nox (as.map some++List.replicate (N.length-as.length) none) (zu st) {nx:=λ_=>Q (.dat .none),rt:=Q})
  (S:ya N ps (zg st):=by exact .o) (hlen:∀as Q,φ as Q->as.length=ps.length:=by intro _ _ h;repeat first|(obtain⟨rfl,_⟩:=h;rfl)|obtain⟨_,h⟩:=h):Cal P w K mg base x (k+1) φ:=by
 obtain⟨f,fd,F,hm,hb⟩:=G;exact zS2 F hm hb S hlen λcdv b outer s H E as Q hr h=>a f cdv b outer s H E as Q S.nd hr h
theorem oC {C f:Addr}{fd:FuncData}{m d:Str}{st:Stmt}{ps:List Str}{k:Nat}{φ:List A->(A->Prop)->Prop}(N:List Str)(c:Cls K C)(e:Meth K C m f)(F:Fun K m d st f fd)(hb:Binds K fd ps [])
  (a:∀(cdv:Value) (b:Around) (outer:List Env) (s:Shared) (H:Hp) (E:XK) (as:List A) (Q:A->Prop),N.Nodup->zM k (b.deeper (envOfC d (zg st) s.heap.objs.size f cdv))->φ as Q->
   SvS (wW CX0 P w K mg base N d (zg st) f cdv b outer s H E).nox (as.map some++List.replicate (N.length-as.length) none) (zu st) {nx:=λ_=>Q (.dat .none),rt:=Q})
  (S:ya N ps (zg st):=by exact .o) (hlen:∀as Q,φ as Q->as.length=ps.length:=by intro _ _ h;repeat first|(obtain⟨rfl,_⟩:=h;rfl)|obtain⟨_,h⟩:=h):xh P w K mg base C m (k+1) φ:=
 ⟨f,fd,ps,c,e,hb,fnA F S hlen λcdv b outer s H E as Q hr h=>a cdv b outer s H E as Q S.nd hr h⟩
end
end L2
set_option maxHeartbeats 4000000
namespace K93
open PySem PySem.Spec PyProof.Rows L2
def top (i:Nat):Stmt:=PySem.Challenge.pw_stayprice_k93_whole_from_text_to_paper.main.body.getD i (.Pass ⟨0,0,0,0⟩)
abbrev qC :Stmt:=top 79
abbrev bA :Stmt:=top 80
def gS :Scope:=match zu qC with
 |[.Return (some (.List (.ListComp _ _ sc _::_) _)) _]=>sc
 |_=>zg qC
section
variable {P:Program}{w:World}{K:PySem.W.Frag}{mg:Str->Option Value}{base:Heap}
theorem zE2 :ya ["_law_script"] ["_law_script"] (zg qC):=⟨rfl,rfl,rfl,by decide +kernel,rfl,by decide +kernel,by decide +kernel⟩
theorem aq :zJ ["_law_script"] (zg qC) ["_law_cell"] [none] gS:=⟨rfl,by decide +kernel,by decide +kernel,by decide +kernel,by decide +kernel,rfl,by decide +kernel⟩
theorem zj8 {f:Addr}{fd:FuncData}(F:Fun K "_law_tape" "_law_tape" qC f fd)(T:zG2 mg):yC P w K mg base CX0 1 f fd ["_law_script"] (lQ K):=by
 refine F.ok zE2 (λvs H Q E h=>?_) (λcdv A outer s H vs Q E hr h=>?_)
 ·obtain⟨a,ns,rfl,_⟩:=h;rfl
 ·obtain⟨a,ns,rfl,D,hlen,k⟩:=h;refine⟨_,wo (vw (zc1 (zr
   (zw2 rfl aq (jY (sC pI (pv 0) qV (pA zv)))
    (λ_ _ _ _=>yd (i:=0) aq.nd rfl (Or.inl rfl))
    (λ_ _ _ _=>jw (vj zb3 (yY mw (by rfl) T.abs boot_abs (zr (pv 0) zD)) (ym aa zv zv) (yc _)))
    (λ_ _ _ _=>yY mw (by rfl) T.abs boot_abs (zr (pv 0) zD)))
   (zr (yF uf (by rfl) T.list boot_list (zr (sC pI (pv 0) qV (pA zv)) zD))
   (zr zv zD))))),?_⟩
  -- script[:63]
  refine⟨_,rfl,63,rfl,a,_,rfl,D,λl J=>?_⟩;obtain⟨ms,em,lm⟩:=zd2 ns none (some 63);rw[em];refine⟨l,rfl,⟨_,SqL.of zi⟩,λacc d=>?_⟩;have r:acc≠l:=λz=>by rw[z,zi]at d;cases d
  have g:H acc=none:=by rw[zb r]at d;exact d
  have s0:zz H (upd H l (.lst (ms.map V.int))):=λb o e=>by rw[zb (zj e J)];exact e
  refine fM (K:=K) (a:=l) (xs:=ms.map V.int) (λi ys B u=>∃(bs:List Int) (v:Option V),ys=bs.map V.int/\bs.length<=i/\B=[v]/\u=upd (upd H l (.lst (ms.map V.int))) acc (.lst (bs.map V.int)))
   ⟨[],none,rfl,zX7 _,rfl,rfl⟩ ?_ ?_ ?_
  ·rintro i ys B u _ ⟨bs,v,rfl,_,rfl,rfl⟩;exact SqL.of (by rw[zb r.symm,zi])
  ·rintro i x ys B u q ⟨bs,v,rfl,hb,rfl,rfl⟩;have hi:i<ms.length:=by
    have:=(zX5.mp q).1
    rwa [zX0]at this
   obtain⟨z,rfl⟩:∃z,x=V.int z:=by
    rw[zY3]at q;cases e:ms[i]? with
    |none=>rw[e]at q;cases q
    |some z=>rw[e]at q;exact⟨z,(z00 q).symm⟩
   refine⟨_,rfl,z,rfl,_,_,rfl,rfl,⟨by decide,by decide,by decide⟩,_,_,rfl,rfl,_,rfl,?_⟩;refine aL (λ_=>?_) (λ_=>?_)
   ·refine⟨_,rfl,z,rfl,zi,?_,bs++[if z<0 then -z else z],_,?_,?_,rfl,?_⟩
    ·rw[zX0];exact yw (by lia)
    ·rw[z22];rfl
    ·rw[zZ9];simp;lia
    ·rw[tL,z22];rfl
   ·exact⟨bs,_,rfl,by lia,rfl,rfl⟩
  ·rintro ys B u ⟨bs,v,rfl,hb,rfl,rfl⟩;rw[zX0]at hb
   -- list(script[:63])
   have s1:zz H (upd (upd H l (.lst (ms.map V.int))) acc (.lst (bs.map V.int))):=λb o e=>by rw[zb (zj e g)];exact s0 b o e
   refine⟨_,rfl,63,rfl,a,_,rfl,s1.seq D,λl2 p=>?_⟩;rw[em];refine⟨l2,_,rfl,.inl (SqL.of zi),λc C=>?_⟩;refine⟨(by show 3<=sizeLine;decide),λt y=>?_⟩;have n1:l2≠acc:=λz=>by rw[z,zi]at p;cases p
   have N:c≠l2:=λz=>by rw[z,zi]at C;cases C
   have j:upd (upd H l (.lst (ms.map V.int))) acc (.lst (bs.map V.int)) c=none:=by rw[zb N]at C;exact C
   have I:c≠acc:=λz=>by rw[z,zi]at j;cases j
   have G:t≠c:=λz=>by rw[z,zi]at y;cases y
   have m:upd (upd (upd H l (.lst (ms.map V.int))) acc (.lst (bs.map V.int))) l2 (.lst (ms.map V.int)) t=none:=by rw[zb G]at y;exact y
   have M:t≠l2:=λz=>by rw[z,zi]at m;cases m
   have n:upd (upd H l (.lst (ms.map V.int))) acc (.lst (bs.map V.int)) t=none:=by rw[zb M]at m;exact m
   have L:t≠acc:=λz=>by rw[z,zi]at n;cases n
   refine k t acc c _ ⟨0,bs,ms,I.symm,zi,?_,?_,by lia,by lia⟩ (s1.free n) g (s1.free j) λb o e=>?_
   ·rw[zb L.symm,zb I.symm,zb n1.symm,zi]
   ·rw[zb G.symm,zi]
   ·have e1:=s1 b o e;rw[zb (zj e1 n),zb (zj e1 j),zb (zj e1 p)];exact e1
theorem uL :ya ["_law_tape_here","_law_many","_law_found","_law_cell","_law_number"] ["_law_tape_here","_law_many"] (zg bA):=⟨rfl,rfl,rfl,by decide +kernel,rfl,by decide +kernel,by decide +kernel⟩
theorem zl5 {f:Addr}{fd:FuncData}(F:Fun K "_law_draw" "_law_draw" bA f fd)(T:zG2 mg):yC P w K mg base CX0 1 f fd ["_law_tape_here","_law_many"] dI:=by
 refine F.ok uL (λvs H Q E h=>?_) (λcdv A outer s H vs Q E hr h=>?_)
 ·obtain⟨t,b,c,many,rfl,_⟩:=h;rfl
 ·obtain⟨t,b,c,many,rfl,⟨n,bs,cs,B,J,hb,hc,lb,lc⟩,p,S,k⟩:=h;have C:t≠b:=eo J hb (kZ bs);have L:t≠c:=eo J hc (kZ cs);have D:many.natAbs.log2<9000:=log2_small p S
  -- tape[2]=tape[2]+1
  refine xm (λσ H1=>σ=[some (.ref t),some (.int many),none,none,none]/\H1=upd H t (.lst [.ref b,.ref c,.int (n+1)]))
   ⟨_,mH (ym uF (yx zQ (pv 0) zv (λ_ _=>rfl)) zv) (kx (pv 0) zv set_list),?_⟩ ?_
  ·exact⟨_,rfl,t,_,2,_,rfl,rfl,SqL.of J,rfl,_,_,rfl,rfl,_,rfl,t,_,2,2,rfl,rfl,J,rfl,rfl,rfl⟩
  rintro σ H1 ⟨rfl,x⟩;have R:H1 t=some (.lst [.ref b,.ref c,.int (n+1)]):=by rw[x];exact zi
  have N:H1 b=some (.lst (bs.map V.int)):=by rw[x,zb C.symm];exact hb
  have Z:H1 c=some (.lst (cs.map V.int)):=by rw[x,zb L.symm];exact hc
  have I:pK t b H H1:=λa h1 h2=>by rw[x,zb h1]
  clear x
  -- while len(tape[0]) > 0 and tape[0][0]==0:tape[0].pop(0)
  refine xm (λσ q=>∃g:List Int,g.length<=63/\σ=[some (.ref t),some (.int many),none,none,none]/\q t=some (.lst [.ref b,.ref c,.int (n+1)])/\q b=some (.lst (g.map V.int))/\q c=some (.lst (cs.map V.int))/\pK t b H q)
   ⟨_,mF z96 (bK (vj jv (yY yH (by rfl) T.len yd4 (zr (yx zQ (pv 0) zv (λ_ _=>rfl)) zD)) zv (yc _))
     (jr (vj jG (yx zQ (yx zQ (pv 0) zv (λ_ _=>rfl)) zv (λ_ _=>rfl)) zv (yc _)))).pt
    (wo (jE (kW PySem.F.plainAttrs_list PySem.F.slot_list_pop PySem.F.type_list_pop aY (yx zQ (pv 0) zv (λ_ _=>rfl)) (zr zv zD)))),?_⟩ ?_
  ·refine⟨λm σ q=>∃g:List Int,m=g.length/\g.length<=63/\σ=[some (.ref t),some (.int many),none,none,none]/\q t=some (.lst [.ref b,.ref c,.int (n+1)])/\q b=some (.lst (g.map V.int))/\q c=some (.lst (cs.map V.int))/\pK t b H q,
    ⟨_,bs,rfl,lb,rfl,R,N,Z,I⟩,?_⟩
   rintro m σ q ⟨g,rfl,v,rfl,d,e,o,l⟩;refine⟨_,rfl,t,_,0,_,rfl,rfl,SqL.of d,rfl,b,_,rfl,.inl (SqL.of e),_,_,rfl,rfl,_,rfl,?_⟩;refine aL (λ_=>?_) (λ_=>?_)
   ·cases g with
    |nil=>rename_i z;simp at z
    |cons z r=>
     refine⟨_,rfl,t,_,0,_,rfl,rfl,SqL.of d,rfl,b,_,0,_,rfl,rfl,SqL.of e,at0,rfl,_,rfl,?_⟩;refine aL (λ_=>?_) (λ_=>?_)
     ·refine⟨_,λa0 H' h'=>h',_,rfl,t,_,0,_,rfl,rfl,SqL.of d,rfl,.inl ⟨rfl,_,SqL.of e⟩,b,_,0,0,_,rfl,rfl,e,by decide,by decide,zS5,rfl,r.length,?_,r,rfl,?_,rfl,?_,zi,?_,?_⟩
      ·simp
      ·simp at v;lia
      ·rw[zb C];exact d
      ·rw[zb B.symm];exact o
      ·exact l.trans λa h1 h2=>by rw[zb h2]
     ·exact⟨_,v,rfl,d,e,o,l⟩
   ·exact⟨_,v,rfl,d,e,o,l⟩
  rintro σ q ⟨g,v,rfl,d,e,o,l⟩
  -- if len(tape[0]) > 0:..
  refine xm (λσ u=>σ=[some (.ref t),some (.int many),none,none,none]/\q=u)
   ⟨_,eN (vj jv (yY yH (by rfl) T.len yd4 (zr (yx zQ (pv 0) zv (λ_ _=>rfl)) zD)) zv (yc _))
    (zI (wg (i:=2) uL.nd rfl (Or.inl rfl) (ym vM (yx zQ (yx zQ (pv 0) zv (λ_ _=>rfl)) zv (λ_ _=>rfl)) (pv 1)))
    (zI (mH (ym rD (yx zQ (yx zQ (pv 0) zv (λ_ _=>rfl)) zv (λ_ _=>rfl)) (pv 1)) (kx (yx zQ (pv 0) zv (λ_ _=>rfl)) zv set_list))
    (wo (vw (pv 2))))) pG,?_⟩ ?_
  ·refine⟨_,rfl,t,_,0,_,rfl,rfl,SqL.of d,rfl,b,_,rfl,.inl (SqL.of e),_,_,rfl,rfl,_,rfl,?_⟩;refine aL (λ_=>?_) (λ_=>?_)
   ·cases g with
    |nil=>rename_i z;simp at z
    |cons z r=>
     refine⟨_,rfl,t,_,0,_,rfl,rfl,SqL.of d,rfl,b,_,0,_,rfl,rfl,SqL.of e,at0,_,rfl,_,_,rfl,rfl,p,?_⟩;refine⟨_,rfl,t,_,0,_,rfl,rfl,SqL.of d,rfl,b,_,0,_,rfl,rfl,SqL.of e,at0,_,rfl,_,_,rfl,rfl,⟨p,D⟩,?_⟩;refine⟨_,rfl,t,_,0,_,rfl,rfl,SqL.of d,rfl,b,_,0,0,rfl,rfl,e,ix0,_,rfl,?_⟩;refine k _ _ (yc7 _ (ye8 p)) (z97 _ p) ⟨n+1,(z / many)::r,cs,B,?_,zi,?_,?_,lc⟩ ?_
     ·rw[zb C];exact d
     ·rw[zb B.symm];exact o
     ·simpa using v
     ·exact l.trans λa h1 h2=>by rw[zb h2]
   ·exact⟨rfl,rfl⟩
  rintro σ u ⟨rfl,rfl⟩
  -- cell=5;if len(tape[1]) > 0:..
  refine xm (λσ u=>σ=[some (.ref t),some (.int many),none,some (.int 5),none]/\q=u) ⟨_,wg (i:=3) uL.nd rfl (Or.inl rfl) zv,rfl,rfl⟩ ?_;rintro σ u ⟨rfl,rfl⟩;refine xm (λσ u=>∃z:Int,σ=[some (.ref t),some (.int many),none,some (.int z),none]/\q=u)
   ⟨_,eN (vj jv (yY yH (by rfl) T.len yd4 (zr (yx zQ (pv 0) zv (λ_ _=>rfl)) zD)) zv (yc _))
    (wo (wg (i:=3) uL.nd rfl (Or.inl rfl) (yx zQ (yx zQ (pv 0) zv (λ_ _=>rfl)) (ym vM (yx zQ (pv 0) zv (λ_ _=>rfl)) (yY yH (by rfl) T.len yd4 (zr (yx zQ (pv 0) zv (λ_ _=>rfl)) zD))) (λ_ _=>rfl)))) pG,?_⟩ ?_
  ·refine⟨_,rfl,t,_,1,_,rfl,rfl,SqL.of d,rfl,c,_,rfl,.inl (SqL.of o),_,_,rfl,rfl,_,rfl,?_⟩;refine aL (λG=>?_) (λ_=>?_)
   ·have O:0<cs.length:=by simpa using G
    have M:(0:Int)<((cs.map V.int).length:Int):=by rw[zX0];lia
    have h1:=yc7 (n+1) (ye8 M);have h2:=z97 (n+1) M;obtain⟨j,hj⟩:=z50 h1;have Y:j<cs.length:=by rw[hj,zX0]at h2;lia
    refine⟨_,rfl,t,_,1,_,rfl,rfl,SqL.of d,rfl,_,rfl,t,_,2,_,rfl,rfl,SqL.of d,rfl,_,rfl,t,_,1,_,rfl,rfl,SqL.of d,rfl,c,_,rfl,.inl (SqL.of o),_,_,rfl,rfl,M,c,_,_,V.int cs[j],rfl,rfl,SqL.of o,?_,cs[j],rfl,rfl⟩;rw[hj];exact zW (by rw[zY3,zX3 Y];rfl)
   ·exact⟨5,rfl,rfl⟩
  rintro σ u ⟨z,rfl,rfl⟩
  -- the numbers
  refine xm (λσ u=>∃y:Int,(0<=y/\y<2147483647)/\σ=[some (.ref t),some (.int many),none,some (.int z),some (.int y)]/\q=u)
   ⟨_,wg (i:=4) uL.nd rfl (Or.inl rfl) (ym vM (ym sT (ym uF (ym uF (ym vM (pv 3) zv) (ym sT zv (yx zQ (pv 0) zv (λ_ _=>rfl)))) zv) zv) zv),?_⟩ ?_
  ·exact⟨_,rfl,_,_,rfl,rfl,(by show(0:Int)<999983;decide),_,rfl,t,_,2,_,rfl,rfl,SqL.of d,rfl,_,_,rfl,rfl,.inl ⟨by decide,by decide⟩,_,_,rfl,rfl,_,_,rfl,rfl,_,_,rfl,rfl,.inr ⟨by decide,by decide⟩,_,_,rfl,rfl,(by show(0:Int)<2147483647;decide),
    _,⟨yc7 _ (by decide),z97 _ (by decide)⟩,rfl,rfl⟩
  rintro σ u ⟨y,⟨X,U⟩,rfl,rfl⟩;refine xm (λσ u=>∃y:Int,(0<=y/\y<2147483647)/\σ=[some (.ref t),some (.int many),none,some (.int z),some (.int y)]/\q=u)
   ⟨_,wg (i:=4) uL.nd rfl (Or.inl rfl) (ym vM (ym uF (ym uF (ym sT (pv 4) (pv 4)) (ym sT zv (yx zQ (pv 0) zv (λ_ _=>rfl)))) zv) zv),?_⟩ ?_
  ·refine⟨_,rfl,_,rfl,_,_,rfl,rfl,.inl ⟨by lia,by lia⟩,_,rfl,t,_,2,_,rfl,rfl,SqL.of d,rfl,_,_,rfl,rfl,.inl ⟨by decide,by decide⟩,_,_,rfl,rfl,_,_,rfl,rfl,_,_,rfl,rfl,(by show(0:Int)<2147483629;decide),
    _,⟨yc7 _ (by decide),Int.lt_trans (z97 _ (by decide)) (by decide)⟩,rfl,rfl⟩
  rintro σ u ⟨y2,⟨X,U⟩,rfl,rfl⟩;refine⟨_,wo (vw (ym vM (ym rD (ym vM (ym sT (ym rD (pv 4) zv) zv) zv) zv) (pv 1))),?_⟩;refine⟨_,rfl,_,_,rfl,rfl,⟨by decide,by decide +kernel⟩,_,_,rfl,rfl,.inr ⟨by decide,by decide⟩,_,_,rfl,rfl,(by show(0:Int)<2147483587;decide),_,_,rfl,rfl,⟨by decide,by decide +kernel⟩,_,rfl,_,_,rfl,rfl,p,?_⟩;exact k _ _ (yc7 _ (ye8 p)) (z97 _ p) ⟨n+1,g,cs,B,d,e,o,v,lc⟩ l
end
end K93
set_option compiler.extract_closed false
set_option hygiene false in
local macro_rules
 |`(tactic| exists $f,$a)=>`(tactic| first|refine $f 0 $a ?_|refine $f 1 $a ?_|refine $f 2 $a ?_|refine $f 3 $a ?_|refine $f 4 $a ?_|refine $f 5 $a ?_|refine $f 6 $a ?_|refine $f 7 $a ?_|refine $f 8 $a ?_|refine $f 9 $a ?_|refine $f 10 $a ?_|refine $f 11 $a ?_|refine $f 12 $a ?_|refine $f 13 $a ?_|refine $f 14 $a ?_|refine $f 15 $a ?_|refine $f 16 $a ?_|refine $f 17 $a ?_)
 |`(tactic| exists $f)=>`(tactic| with_reducible refine $f ?_)
 |`(tactic| specialize $p)=>`(tactic| with_reducible show $p)
set_option hygiene false in
local macro_rules
 |`(tactic| and_intros)=>`(tactic| repeat (first
  |((specialize EvD _ _ _ _);first
   |((specialize EvD _ _ (.Name _ _) _);exists zh,rfl)
   |((specialize EvD _ _ (.Call (.Name "str" _) _ _ _) _);refine zm0 (by rfl) nb.str ?_)
   |((specialize EvD _ _ (.Call (.Name "tuple" _) _ _ _) _);refine zk8 (by rfl) nb.tuple ?_)
   |((specialize EvD _ _ (.Call (.Attribute _ "join" _) _ _ _) _);refine iq ?_)
   |((specialize EvD _ _ (.Call (.Attribute _ "split" _) _ _ _) _);refine EvL.d (oF ?_))
   |((specialize EvD _ _ (.Constant _ _ _) _);first|exists yr|exists xj|exists bE|exists lC)
   |((specialize EvD _ _ (.BinOp (.Constant (.int 10) _ _) .Pow (.Constant (.int 6) _ _) _) _);refine pd (r:=1000000) ⟨by decide,by decide,by decide⟩ (by decide) ?_)
   |((specialize EvD _ _ (.BinOp (.Constant (.int 10) _ _) .Pow (.Constant (.int 12) _ _) _) _);refine pd (r:=1000000000000) ⟨by decide,by decide,by decide⟩ (by decide) ?_)
   |((specialize EvD _ _ (.BinOp (.Constant (.int 10) _ _) .Pow (.Constant (.int 9) _ _) _) _);refine pd (r:=1000000000) ⟨by decide,by decide,by decide⟩ (by decide) ?_)
   |((specialize EvD _ _ (.BinOp (.Constant (.int 10) _ _) .Pow (.Constant (.int 11) _ _) _) _);refine pd (r:=100000000000) ⟨by decide,by decide,by decide⟩ (by decide) ?_)
   |((specialize EvD _ _ (.BinOp _ .Add (.List _ _) _) _);refine EvL.d (va ?_))
   |((specialize EvD _ _ (.BinOp (.List _ _) .Add _ _) _);refine EvL.d (va ?_))
   |((specialize EvD _ _ (.BinOp (.Subscript _ (.Slice _ _ none _) _) .Add _ _) _);refine EvL.d (va ?_))
   |((specialize EvD _ _ (.BinOp _ .Add (.Subscript _ (.Slice _ _ none _) _) _) _);refine EvL.d (va ?_))
   |((specialize EvD _ _ (.BinOp (.Call (.Attribute _ "rules" _) _ _ _) .Add _ _) _);refine EvL.d (va ?_))
   |exists rz
   |exists bw
   |exists ev_mod
   |exists ev_fdiv
   |exists ev_mul
   |exists ev_shl
   |exists zC6
   |exists zb8
   |exists mM
   |((specialize EvD _ _ (.Subscript _ (.Slice _ _ none _) _) _);refine EvL.d (dJ ?_))
   |((specialize EvD _ _ (.Subscript _ _ _) _);refine mG hr.one (fun _ _=>rfl) ?_)
   |((specialize EvD _ _ (.List _ _) _);refine EvL.d (wI ?_))
   |((specialize EvD _ _ (.Call (.Name "len" _) _ _ _) _);refine pY (by rfl) nb.len ?_)
   |((specialize EvD _ _ (.Call (.Name "min" _) [_,_] _ _) _);refine ev_min rfl (by rfl) nb.min ?_)
   |((specialize EvD _ _ (.Call (.Name "max" _) [_,_] _ _) _);refine ev_max rfl (by rfl) nb.max ?_)
   |((specialize EvD _ _ (.Call (.Name "list" _) _ _ _) _);refine EvL.d (kQ (by rfl) nb.list ?_))
   |((specialize EvD _ _ (.Call (.Name "repr" _) _ _ _) _);refine pD hr.gd hr.units (by rfl) nb.repr ?_)
   |((specialize EvD _ _ (.Call (.Name "min" _) [_] _ _) _);refine ev_minI rfl hr.few (by rfl) nb.min ?_)
   |((specialize EvD _ _ (.Call (.Name "isinstance" _) _ _ _) _);first|refine sR (by rfl) nb.isinstance (by rfl) nb.int boot_int ?_|refine sR (by rfl) nb.isinstance (by rfl) nb.bool boot_bool ?_|refine sR (by rfl) nb.isinstance (by rfl) nb.str boot_str ?_|refine sR (by rfl) nb.isinstance (by rfl) nb.list boot_list ?_|refine sR (by rfl) nb.isinstance (by rfl) nb.tuple boot_tuple ?_)
   |((specialize EvD _ _ (.Call (.Name "int" _) _ _ _) _);refine kN (by rfl) nb.int ?_)
   |((specialize EvD _ _ (.Call (.Name _ _) _ _ _) _);first|refine ze4 (by with_reducible assumption) (by exact⟨rfl,rfl,rfl,rfl,rfl⟩) (hr.mono (by decide)) (by rfl) ?_|refine EvN.d (bp (by with_reducible assumption) (by exact⟨rfl,rfl,rfl,rfl,rfl⟩) (hr.mono (by decide)) (by rfl) ?_))
   |((specialize EvD _ _ (.Call (.Attribute _ _ _) (_::_) _ _) _);refine bC (by with_reducible assumption) (by exact⟨rfl,rfl,rfl,rfl,rfl⟩) (hr.mono (by decide)) ?_)
   |((specialize EvD _ _ (.Call (.Attribute _ _ _) [] _ _) _);refine iY (by with_reducible assumption) (by exact⟨rfl,rfl,rfl,rfl,rfl⟩) (hr.mono (by decide)) ?_)
   |((specialize EvD _ _ (.Compare _ [_] _ _) _);first|exists zv4|exists zQ3|exists ev_gt|exists zM9|exists zG5|exists ev_notN|((specialize EvD _ _ (.Compare _ [.Eq] _ _) _);refine zz4 hr.units ?_)|((specialize EvD _ _ (.Compare _ [.NotEq] _ _) _);refine zc0 hr.units ?_)|((specialize EvD _ _ (.Compare _ [.In] _ _) _);refine ev_ink hr.one ?_)|((specialize EvD _ _ (.Compare _ [.NotIn] _ _) _);refine ev_nink hr.one ?_)|((specialize EvD _ _ (.Compare _ [.Is] [.Constant (.bool _) _ _] _) _);refine ev_isT ?_))
   |((specialize EvD _ _ (.Compare _ [_,_] _ _) _);first|refine zi8 ?_|refine ev_ltle ?_|refine ab ?_)
   |((specialize EvD _ _ (.BoolOp _ _ _) _);first|exists zG1|exists zK0|exists lq)
   |exists lI)
  |((specialize EvA _ _ _ _);first
   |exists zx
   |((specialize EvA _ _ (.Name "_law_tape_here" _::_) _);exists pT,rfl)
   |refine zm ?_)
  |((specialize EvT _ _ _ _);first
   |((specialize EvT _ _ (.Compare _ [_] _ _) _);first|exists zM2|exists et_le|exists zp5|exists zJ6|exists vb|exists zo2|((specialize EvT _ _ (.Compare _ [.Eq] _ _) _);refine zF7 hr.units ?_)|((specialize EvT _ _ (.Compare _ [.NotEq] _ _) _);refine og hr.units ?_)|((specialize EvT _ _ (.Compare _ [.In] _ _) _);refine zy6 hr.one ?_)|((specialize EvT _ _ (.Compare _ [.NotIn] _ _) _);refine zl8 hr.one ?_)|((specialize EvT _ _ (.Compare _ [.Is] [.Constant (.bool _) _ _] _) _);refine zD9 ?_)|((specialize EvT _ _ (.Compare _ [.IsNot] [.Constant (.bool _) _ _] _) _);refine bQ ?_))
   |((specialize EvT _ _ (.Compare _ [_,_] _ _) _);first|refine et_lelt ?_|refine et_ltle ?_|refine et_lele' ?_)
   |exists pf
   |((specialize EvT _ _ (.BoolOp _ _ _) _);exists EvW.t)
   |refine sV ?_)
  |((specialize EvL _ _ _ _);first
   |exists wI
   |((specialize EvL _ _ (.Call (.Name "list" _) _ _ _) _);refine kQ (by rfl) nb.list ?_)
   |((specialize EvL _ _ (.Call (.Name _ _) _ _ _) _);refine zo0 (by with_reducible assumption) (by exact⟨rfl,rfl,rfl,rfl,rfl⟩) (hr.mono (by decide)) (by rfl) ?_)
   |((specialize EvL _ _ (.Call (.Attribute _ _ _) [] _ _) _);refine fX (by with_reducible assumption) (by exact⟨rfl,rfl,rfl,rfl,rfl⟩) (hr.mono (by decide)) ?_)
   |((specialize EvL _ _ (.Subscript _ (.Slice _ _ none _) _) _);refine dJ ?_)
   |((specialize EvL _ _ (.BinOp _ .Add _ _) _);refine va ?_))
  |((specialize EvW _ _ _ _);first
   |exists cU
   |exists zI5
   |exists oi
   |exists zE7)
  |((specialize EvO _ _ _ _);first
   |exists jZ
   |exists jn)
  |((specialize nc _ _ _);first
   |refine ixk rfl rfl rfl ?_
   |refine zJ5 ?_
   |refine zR8 ?_)
  |((specialize aC _ _ _ _);first
   |refine ink rfl rfl ?_
   |refine ink_hind ?_
   |refine inkT rfl rfl ?_)
  |((specialize rO _ _ _);first
   |exists zi4
   |exists qY
   |exists eqk_bool
   |refine eqk rfl rfl rfl rfl ?_)
  |((specialize SvS _ _ _ _);first
   |((specialize SvS _ (List.set _ _ _) _ _);dsimp only[List.set])
   |((specialize SvS _ _ (zu _) _);show SvS _ _ (_::_) _)
   |((specialize SvS _ _ (.Assign [.Name _ _] (.List [] _) _::_) _);exists xl,nd)
   |((specialize SvS _ _ (.Assign [.Name _ _] _ _::_) _);exists yj,nd)
   |((specialize SvS _ _ (.Expr (.Call (.Attribute _ "append" _) _ _ _) _::_) _);exists vk,rfl)
   |((specialize SvS _ _ (.Return (some (.Name _ _)) _::_) _);exists xo,rfl)
   |exists xv
   |exists sv_cont
   |exists sv_pass
   |exists xV
   |exists zF
   |((with_reducible refine vn ?hk ?_);case hk=>first|rfl|decide +kernel)
   |((with_reducible refine zC ?hk ?_);case hk=>first|rfl|decide +kernel))
  |((specialize xC _ _);refine⟨_,rfl,by first|decide|lia,by first|decide|(show _<big;unfold big;lia),fun _ _ _=>?_⟩)
  |((with_reducible refine vS ?hk ?_);case hk=>first|rfl|decide +kernel)
  |((with_reducible refine nP ?hk ?_);case hk=>first|rfl|decide +kernel)
  |refine⟨_,_,rfl,rfl,?_⟩
  |refine⟨_,_,_,rfl,rfl,rfl,?_⟩
  |refine⟨_,rfl,z20 rfl,?_⟩
  |refine⟨_,rfl,rfl,?_⟩
  |refine⟨_,rfl,?_⟩))
namespace K93
open PySem PySem.Spec PyProof.Rows L2
abbrev cR :Stmt:=top 3
abbrev js :Stmt:=top 4
abbrev zx1 :Stmt:=top 5
abbrev zP6 :Stmt:=top 6
abbrev zx3 :Stmt:=top 7
abbrev nv :Stmt:=top 8
abbrev zu0 :Stmt:=inClass (top 20) 0
abbrev zr7 :Stmt:=inClass (top 20) 2
abbrev zb7 :Stmt:=inClass (top 20) 3
abbrev zg7 :Stmt:=inClass (top 21) 0
abbrev zG6 :Stmt:=inClass (top 22) 0
abbrev zT5 :Stmt:=inClass (top 23) 0
abbrev zj5 :Stmt:=inClass (top 24) 0
abbrev zC7 :Stmt:=inClass (top 25) 0
abbrev zB6 :Stmt:=inClass (top 26) 0
abbrev zR3 :Stmt:=inClass (top 27) 0
abbrev dW :Stmt:=top 29
abbrev ju :Stmt:=top 30
abbrev eL :Stmt:=top 31
abbrev iu :Stmt:=top 32
abbrev zt8 :Stmt:=top 33
abbrev kK :Stmt:=top 34
theorem mv (d:PyData):zT (.str "price") d=(isNone d||rf d):=rfl
theorem kb (d:PyData):zT (.str "come") d=isBool d:=rfl
theorem zd5 (d:PyData):zT (.str "go") d=isBool d:=rfl
theorem oV (d:PyData):zT (.str "least") d=yM 1 14 d:=rfl
theorem lh (d:PyData):zT (.str "most") d=yM 1 14 d:=rfl
theorem lX (d:PyData):zT (.str "deal") d=(isNone d||sW d):=rfl
theorem fv (d:PyData):zT (.str "fee") d=rf d:=rfl
theorem zB {lo hi:Int}{d:PyData}(h:yM lo hi d=true):∃i,d=.int i/\lo<=i/\i<=hi:=by
 cases d with
 |int i=>exact⟨i,rfl,ya2 (z72.mp h).1,ya2 (z72.mp h).2⟩
 |_=>cases h
theorem bool_inv {d:PyData}(h:isBool d=true):∃b,d=.bool b:=by
 cases d with
 |bool b=>exact⟨b,rfl⟩
 |_=>cases h
theorem vm {d:PyData}(h:sW d=true):∃m f:Int,d=.tuple [.int m,.int f]/\2<=m/\m<=14/\1<=f/\f<=m-1:=by
 unfold sW at h;split at h
 ·obtain⟨h1,h2⟩:=z72.mp h;obtain⟨_,rfl,h3,b⟩:=zB h2;obtain⟨_,e,a,c⟩:=zB h1;cases e;exact⟨_,_,rfl,a,c,h3,b⟩
 ·cases h
theorem none_or {d:PyData}{p:Bool}(h:(isNone d||p)=true):d=.none\/p=true:=by
 cases d with
 |none=>exact .inl rfl
 |_=>exact .inr h
theorem yR {d:PyData}(h:xk d=true):∃(s:Str) (i j:Int) (v:PyData),s∈words/\d=.tuple [.str s,.int i,.int j,v]/\0<=i/\i<=j/\j<=1000000/\zT (.str s) v=true:=by
 obtain⟨s,a,b,v,n,rfl⟩:=uT h;obtain⟨h1,h2⟩:=z72.mp (show(wV (.tuple [a,b])&&zT (.str s) v)=true from h);unfold wV zD3 at h1;split at h1
 ·rename_i k e;split at e
  ·rename_i z;cases z;split at e
   ·rename_i q;cases e;obtain⟨f,l⟩:=z72.mp q;obtain⟨_,e1,g,a1⟩:=zB f;obtain⟨_,m,o,c⟩:=zB l;cases e1;cases m;have:=ya2 h1;exact⟨s,_,_,v,n,rfl,g,by lia,c,h2⟩
   ·cases e
  ·cases e
 ·cases h1
theorem vJ {s:Str}{v:PyData}(a:s∈words)(h:zT (.str s) v=true):v.hasDict=false/\noL v=true:=by
 have w:∀{lo hi:Int},yM lo hi v=true->v.hasDict=false/\noL v=true:=λz=>by obtain⟨_,rfl,_⟩:=zB z;exact⟨rfl,rfl⟩
 have b:isBool v=true->v.hasDict=false/\noL v=true:=λz=>by obtain⟨_,rfl⟩:=bool_inv z;exact⟨rfl,rfl⟩
 simp only[words,zX6,zZ1,z08]at a;rcases a with rfl|rfl|rfl|rfl|rfl|rfl|rfl
 ·rcases none_or h with rfl|h
  ·exact⟨rfl,rfl⟩
  ·exact w h
 ·exact b h
 ·exact b h
 ·exact w h
 ·exact w h
 ·rcases none_or h with rfl|h
  ·exact⟨rfl,rfl⟩
  ·obtain⟨_,_,rfl,_⟩:=vm h;exact⟨rfl,rfl⟩
 ·exact w h
def me :Ph:=λas Q=>∃i:Int,as=[.dat (.int i)]/\Q (.dat (.bool true))
def bO :Ph:=λas Q=>∃i lo hi:Int,as=[.dat (.int i),.dat (.int lo),.dat (.int hi)]/\lo<=i/\i<=hi/\Q (.dat (.bool true))
def zD1 :Ph:=λas Q=>∃i j:Int,as=[.dat (.tuple [.int i,.int j])]/\Q (.dat (.bool true))
def zM0 :Ph:=λas Q=>∃i:Int,as=[.dat (.int i)]/\0<=i/\i<=1000000/\Q (.dat (.bool true))
def zm6 :Ph:=λas Q=>∃i j:Int,as=[.dat (.tuple [.int i,.int j])]/\0<=i/\i<=j/\j<=1000000/\Q (.dat (.bool true))
def zI8 :Ph:=λas Q=>∃d,as=[.dat d]/\rf d=true/\Q (.dat (.bool true))
def zO1 :Ph:=λas Q=>∃d,as=[.dat d]/\sW d=true/\Q (.dat (.bool true))
def zI4 :Ph:=λas Q=>∃s d,as=[.dat (.str s),.dat d]/\s∈words/\zT (.str s) d=true/\Q (.dat (.bool true))
def zG3 :Ph:=λas Q=>∃d,as=[.dat d]/\xk d=true/\Q (.dat (.bool true))
section
variable {P:Program}{w:World}{K:PySem.W.Frag}{mg:Str->Option Value}{base:Heap}{cs:Cs}
theorem ja (F:FnD K mg "is_whole" cR ["thing"])(nb:NbT mg):Cal P w K mg base "is_whole" 1 me:=by
 refine zN ["thing"] F λ_ _ _ _ _ _ _ _ Q nd hr h=>?_;obtain⟨i,rfl,q⟩:=h;and_intros;exact q
theorem lO (F:FnD K mg "is_whole_within" js ["thing","lowest","highest"])(a:Cal P w K mg base "is_whole" 1 me):Cal P w K mg base "is_whole_within" 2 bO:=by
 refine zN ["thing","lowest","highest"] F λ_ _ _ _ _ _ _ _ Q nd hr h=>?_;obtain⟨i,lo,hi,rfl,h1,h2,q⟩:=h;and_intros;refine vS (z02 h1) ?_;and_intros;rw[z02 h2];exact q
theorem aX (F:FnD K mg "is_pair" zx1 ["thing"])(nb:NbT mg):Cal P w K mg base "is_pair" 1 zD1:=by
 refine zN ["thing"] F λ_ _ _ _ _ _ _ _ Q nd hr h=>?_;obtain⟨i,j,rfl,q⟩:=h;and_intros;exact q
theorem iU (F:FnD K mg "is_day" zP6 ["thing"])(gl:∃t,mg "LAST_DAY"=some (.int 1000000 t))(a:Cal P w K mg base "is_whole_within" 2 bO):Cal P w K mg base "is_day" 3 zM0:=by
 refine zN ["thing"] F λ_ _ _ _ _ _ _ _ Q nd hr h=>?_;obtain⟨i,rfl,h1,h2,q⟩:=h;and_intros;exact wa (by rfl) gl (zx ⟨_,_,_,rfl,h1,h2,q⟩)
theorem aw (F:FnD K mg "is_pair_of_days" zx3 ["thing"])(a:Cal P w K mg base "is_pair" 1 zD1)(b:Cal P w K mg base "is_day" 3 zM0):Cal P w K mg base "is_pair_of_days" 4 zm6:=by
 refine zN ["thing"] F λ_ _ _ _ _ _ _ _ Q nd hr h=>?_;obtain⟨i,j,rfl,h1,h2,h3,q⟩:=h;and_intros;refine⟨_,_,rfl,?_⟩;and_intros;refine⟨h1,by lia,?_⟩;and_intros;exact⟨by lia,h3,q⟩
theorem oA (F:FnD K mg "is_stretch" nv ["thing"])(a:Cal P w K mg base "is_pair_of_days" 4 zm6):Cal P w K mg base "is_stretch" 5 zm6:=by
 refine zN ["thing"] F λ_ _ _ _ _ _ _ _ Q nd hr h=>?_;obtain⟨i,j,rfl,h1,h2,h3,q⟩:=h;and_intros;refine⟨_,_,rfl,h1,h2,h3,?_⟩;and_intros;rw[z02 h2];exact q
theorem nJ (F:FnD K mg "is_coins" dW ["thing"])(gl:∃t,mg "MOST_COINS"=some (.int 1000000000000 t))(a:Cal P w K mg base "is_whole_within" 2 bO):Cal P w K mg base "is_coins" 3 zI8:=by
 refine zN ["thing"] F λ_ _ _ _ _ _ _ _ Q nd hr h=>?_;obtain⟨d,rfl,h,q⟩:=h;obtain⟨i,rfl,h1,h2⟩:=zB h;and_intros;exact wa (by rfl) gl (zx ⟨_,_,_,rfl,h1,h2,q⟩)
theorem kn (F:FnD K mg "is_deal" ju ["thing"])(gl:∃t,mg "MOST_NIGHTS"=some (.int 14 t))(b:Cal P w K mg base "is_pair" 1 zD1)(c:Cal P w K mg base "is_whole_within" 2 bO):Cal P w K mg base "is_deal" 3 zO1:=by
 refine zN ["thing"] F λ_ _ _ _ _ _ _ _ Q nd hr h=>?_;obtain⟨d,rfl,h,q⟩:=h;obtain⟨m,f,rfl,h1,h2,h3,a⟩:=vm h;and_intros;refine⟨_,_,rfl,?_⟩;and_intros;refine wa (by rfl) gl (zx ⟨_,_,_,rfl,h1,h2,?_⟩);and_intros;exact⟨_,_,_,rfl,h3,a,q⟩
theorem oZ (F:FnD K mg "is_worth" eL ["word","thing"])(nb:NbT mg)(gl:∃t,mg "MOST_NIGHTS"=some (.int 14 t))(c:Cal P w K mg base "is_whole_within" 2 bO)(e:Cal P w K mg base "is_coins" 3 zI8)(g:Cal P w K mg base "is_deal" 3 zO1):Cal P w K mg base "is_worth" 4 zI4:=by
 refine zN ["word","thing"] F λ_ _ _ _ _ _ _ _ Q nd hr h=>?_;obtain⟨s,d,rfl,a,h,q⟩:=h;simp only[words,zX6,zZ1,z08]at a;rcases a with rfl|rfl|rfl|rfl|rfl|rfl|rfl
 ·rcases none_or h with rfl|h
  ·and_intros;exact q
  ·obtain⟨i,rfl,_⟩:=zB h;and_intros;exact⟨h,q⟩
 ·obtain⟨b,rfl⟩:=bool_inv h;and_intros;exact q
 ·obtain⟨b,rfl⟩:=bool_inv h;and_intros;exact q
 ·obtain⟨i,rfl,h1,h2⟩:=zB h;and_intros;exact wa (by rfl) gl (zx ⟨_,_,_,rfl,h1,h2,q⟩)
 ·obtain⟨i,rfl,h1,h2⟩:=zB h;and_intros;exact wa (by rfl) gl (zx ⟨_,_,_,rfl,h1,h2,q⟩)
 ·rcases none_or h with rfl|h
  ·and_intros;exact q
  ·obtain⟨m,f,rfl,_⟩:=vm h;and_intros;exact⟨h,q⟩
 ·and_intros;exact⟨h,q⟩
theorem ka (F:FnD K mg "is_rule" iu ["thing"])(nb:NbT mg)(c:Cal P w K mg base "is_stretch" 5 zm6)(e:Cal P w K mg base "is_worth" 4 zI4):Cal P w K mg base "is_rule" 6 zG3:=by
 refine zN ["thing"] F λ_ _ _ _ _ _ _ _ Q nd hr h=>?_;obtain⟨d,rfl,h,q⟩:=h;obtain⟨s,i,j,v,b,rfl,h1,h2,h3,a⟩:=yR h;have hf:=(vJ b a).1;and_intros;refine⟨true,by simp[PyData.hasDict,PyData.hasDictAll,hf],rfl,?_⟩;and_intros;refine⟨_,_,rfl,h1,h2,h3,?_⟩;and_intros;exact⟨_,_,rfl,b,a,q⟩
def uO (C:Addr)(a b v:PyData):PyData:=xH C [(.str "first",a),(.str "last",b),(.str "worth",v)]
def uk (cs:Cs):PyData->PyData
 |.tuple [.str w,a,b,v]=>uO (cs.of w) a b v
 |_=>.none
def oK (C:Addr):Ph:=λas Q=>∃a b v,as=[.dat a,.dat b,.dat v]/\noL a=true/\noL b=true/\noL v=true/\Q (.dat (uO C a b v))
def zM3 (cs:Cs):Ph:=λas Q=>∃s a b v,as=[.dat (.str s),.dat a,.dat b,.dat v]/\s∈words/\noL a=true/\noL b=true/\noL v=true/\Q (.dat (uO (cs.of s) a b v))
def nh (cs:Cs):Ph:=λas Q=>∃d,as=[.dat d]/\xk d=true/\Q (.dat (uk cs d))
def lR (C:Addr)(w:Str):Ph:=λas Q=>∃a b v,as=[.dat (uO C a b v)]/\Q (.dat (.tuple [.str w,a,b,v]))
def pN (C:Addr)(w:Str):Ph:=λas Q=>∃a b v,as=[.dat (uO C a b v)]/\Q (.dat (.str w))
def sL (C:Addr):Ph:=λas Q=>∃(a b day:Int) (v:PyData),as=[.dat (uO C (.int a) (.int b) v),.dat (.int day)]/\Q (.dat (.bool (decide (a<=day)&&decide (day<=b))))
theorem aF (F:FnD K mg "made" zt8 ["word","first","last","worth"])(k:vH P w K mg base "Price" 1 [] (oK cs.price))(j:vH P w K mg base "Come" 1 [] (oK cs.come))(f:vH P w K mg base "Go" 1 [] (oK cs.go))(l:vH P w K mg base "Least" 1 [] (oK cs.least))(e:vH P w K mg base "Most" 1 [] (oK cs.most))(g:vH P w K mg base "Deal" 1 [] (oK cs.deal))(i:vH P w K mg base "Fee" 1 [] (oK cs.fee)):Cal P w K mg base "made" 3 (zM3 cs):=by
 refine zN ["word","first","last","worth"] F λ_ _ _ _ _ _ _ _ Q nd hr h=>?_;obtain⟨s,a,b,v,rfl,c,ha,hb,d,q⟩:=h;simp only[words,zX6,zZ1,z08]at c;rcases c with rfl|rfl|rfl|rfl|rfl|rfl|rfl<;>and_intros<;>exact⟨_,_,_,rfl,ha,hb,d,q⟩
theorem ly (F:FnD K mg "rule_of" kK ["thing"])(CR:Cal P w K mg base "is_rule" 6 zG3)(c:Cal P w K mg base "made" 3 (zM3 cs)):Cal P w K mg base "rule_of" 7 (nh cs):=by
 refine zN ["thing"] F λ_ _ _ _ _ _ _ _ Q nd hr h=>?_;obtain⟨d,rfl,h,q⟩:=h;obtain⟨s,i,j,v,a,rfl,h1,h2,h3,b⟩:=yR h;and_intros;refine⟨h,?_⟩;and_intros;exact⟨_,_,_,_,rfl,a,rfl,rfl,(vJ a b).2,q⟩
theorem yU {x:Str}{C f fT fE fW:Addr}{fd:FuncData}(R:tq K C f fT fE fW)(hm:mg x=some (.ref C))(F:Fun K "__init__" "Rule.__init__" zu0 f fd)(hb:Binds K fd ["self","first","last","worth"] []):vH P w K mg base x 1 [] (oK C):=by
 refine⟨C,f,fd,_,[],hm,R.makes,hb,.nil,F.ok (N:=["self","first","last","worth"]) .o (λvs H Q E h=>?_) (λcdv A outer s H vs Q E hr h=>?_)⟩
 ·obtain⟨_,as,_,_,_,_,_,rfl,_,_,_,_,_,_,_,c,⟨a,b,v,rfl,_⟩,_⟩:=h;exact congrArg (·+1) c.length
 ·obtain⟨G,as,T,p,dx,M,H1,rfl,g,B,hn,rfl,rfl,t,o,c,⟨a,b,v,rfl,n1,I,O,q⟩,S⟩:=h;cases c with
  |cons L c=>cases c with
   |cons J c=>cases c with
    |cons D c=>
     cases c;rename_i x y z;refine⟨_,zI (pZ (pv 0) (pv 1) rfl) (zI (pZ (pv 0) (pv 2) rfl) (wo (pZ (pv 0) (pv 3) rfl))),_,rfl,_,rfl,p,C,dx,[],rfl,zi,R.cl,R.nf,(by decide:0<1000),_,rfl,_,rfl,p,C,dx,_,rfl,zi,R.cl,R.nl,(show 1<1000 by decide),_,rfl,_,rfl,p,C,dx,xQ "last" y (xQ "first" x []),rfl,zi,R.cl,R.nw,(show 2<1000 by decide),?_⟩;show Q .non _;rw[tL,tL,tL];have i:zz G.H0 (upd (upd G.H0 dx (.own p)) p (.ins C dx (zR6 x y z))):=λa o e=>by rw[zb (zj e g),zb (zj e B)];exact e
     have k:∀{u:V} {d:PyData},AV (sub (λy=>¬G.O0 y) G.H0) u d->noL d=true->AV (sub (λy=>¬G.O0 y/\∀xs,G.H0 y≠some (.lst xs)) (upd (upd G.H0 dx (.own p)) p (.ins C dx (zR6 x y z)))) u d:=λh n=>h.noL (λa o r e=>by
      obtain⟨e1,l⟩:=zc e;exact zA ⟨e1,λxs m=>by rw[l]at m;cases m;exact r trivial⟩ (i _ _ l)) n
     refine S _ _ q ⟨t.same i,Kz.of_same i,.ins (zA ⟨λe=>?_,λxs e=>by rw[g]at e;cases e⟩ zi) (.cons (k L n1) (.cons (k J I) (.cons (k D O) .nil)))⟩;obtain⟨u,j,_⟩:=o p e;rw[g]at j;cases j
theorem yV {C f fI fT fE:Addr}{fd:FuncData}{c d:Str}{st:Stmt}{j:Nat}{p1 p2:Pos}(R:tq K C fI fT fE f)(F:Fun K "word" d st f fd)(hb:Binds K fd ["self"] [])(S:ya ["self"] ["self"] (zg st))(e:zu st=[.Return (some (.Constant (.str c) j p1)) p2]):xh P w K mg base C "word" 1 (pN C c):=by
 refine oC ["self"] R.cl R.word F hb (λ_ _ _ _ _ _ _ Q nd hr h=>?_) S;obtain⟨a,b,v,rfl,q⟩:=h;rw[e];exact xv (xj q)
theorem yS {C f fI fE fW:Addr}{fd:FuncData}{c:Str}(R:tq K C fI f fE fW)(F:Fun K "told" "Rule.told" zr7 f fd)(hb:Binds K fd ["self"] [])(W:xh P w K mg base C "word" 1 (pN C c)):xh P w K mg base C "told" 2 (lR C c):=by
 refine oC ["self"] R.cl R.told F hb λ_ _ _ _ _ _ _ Q nd hr h=>?_;obtain⟨a,b,v,rfl,q⟩:=h;and_intros;exact⟨_,_,_,rfl,zm (wL R.cl R.nf (zh 0 rfl ⟨_,_,rfl,rfl,zm (wL R.cl R.nl (zh 0 rfl ⟨_,_,rfl,rfl,zm (wL R.cl R.nw (zh 0 rfl ⟨_,_,rfl,rfl,zx ⟨_,rfl,z20 rfl,q⟩⟩))⟩))⟩))⟩
theorem yv {C f fI fT fW:Addr}{fd:FuncData}(R:tq K C fI fT f fW)(F:Fun K "tells" "Rule.tells" zb7 f fd)(hb:Binds K fd ["self","day"] []):xh P w K mg base C "tells" 1 (sL C):=by
 refine oC ["self","day"] R.cl R.tells F hb λ_ _ _ _ _ _ _ Q nd hr h=>?_;obtain⟨a,b,day,v,rfl,q⟩:=h;and_intros;refine wL R.cl R.nf (zh 0 rfl ⟨_,_,rfl,rfl,?_⟩);and_intros;refine mE (λz=>?_) (λz=>?_)
 ·rw[z,yb6]at q;exact wL R.cl R.nl (zh 0 rfl ⟨_,_,rfl,rfl,_,rfl,q⟩)
 ·rw[z,ya3]at q;exact q
end
abbrev zs8 :Stmt:=top 38
abbrev xi :Stmt:=inClass (top 37) 0
abbrev vU :Stmt:=inClass (top 37) 1
abbrev jz :Stmt:=inClass (top 37) 2
abbrev eO :Stmt:=top 28
def yh (C:Addr)(cs:Cs)(ds:List PyData):PyData:=xH C [(.str "kept",.list (ds.map (uk cs)))]
def Rules (ds:List PyData):Prop:=∀d∈ds,xk d=true/\SeqAt.shaped d=true/\d.hasDict=false
def zd4 (cs:Cs):Ph:=λas Q=>∃ds,as=[.dat (.list ds)]/\Rules ds/\ds.length<=24/\Q (.own (ds.map (uk cs)))
def uJ (C:Addr)(cs:Cs):Ph:=λas Q=>∃ds,(as=[.dat (.list ds)]\/(as=[.dat .none]/\ds=[]))/\Rules ds/\ds.length<=24/\Q (.dat (yh C cs ds))
def tN (C:Addr)(cs:Cs):Ph:=λas Q=>∃ds,as=[.dat (yh C cs ds)]/\Rules ds/\ds.length<=1000/\Q (.own ds)
theorem vI {cs:Cs}{d:PyData}(h:xk d=true):∃(s:Str) (a b v:PyData),s∈words/\d=.tuple [.str s,a,b,v]/\uk cs d=uO (cs.of s) a b v:=by
 obtain⟨s,a,b,v,c,rfl⟩:=uT h;exact⟨s,a,b,v,c,rfl,rfl⟩
def zd3 :Scope:=match zu vU with
 |[.Return (some (.ListComp _ _ sc _)) _]=>sc
 |_=>zg vU
def tbU :List (Str×V):=[("price",.non),("come",.bl true),("go",.bl true),("least",.int 1),("most",.int 14),("deal",.non),("fee",.int 0)]
def dB (x:Str):PyData:=if x="price"\/x="deal" then .none else if x="come"\/x="go" then .bool true else if x="least" then .int 1 else if x="most" then .int 14 else .int 0
theorem zH2 {x:Str}(h:x∈words):∃v,tbU.lookup x=some v/\scV (dB x)=some v:=by
 simp only[words,zX6,zZ1,z08]at h;rcases h with rfl|rfl|rfl|rfl|rfl|rfl|rfl
 ·exact⟨.non,by decide +kernel,by decide +kernel⟩
 ·exact⟨.bl true,by decide +kernel,by decide +kernel⟩
 ·exact⟨.bl true,by decide +kernel,by decide +kernel⟩
 ·exact⟨.int 1,by decide +kernel,by decide +kernel⟩
 ·exact⟨.int 14,by decide +kernel,by decide +kernel⟩
 ·exact⟨.non,by decide +kernel,by decide +kernel⟩
 ·exact⟨.int 0,by decide +kernel,by decide +kernel⟩
def zg9 (w:Str)(day:Int):PyData->Bool
 |.tuple [.str x,.int a,.int b,_]=>decide (x=w)&&(decide (a<=day)&&decide (day<=b))
 |_=>false
def iw :PyData->PyData
 |.tuple [_,_,_,v]=>v
 |_=>.none
def zk (ds:List PyData)(w:Str)(day:Int):PyData:=match ds.reverse.find? (zg9 w day)with
 |some d=>iw d
 |none=>dB w
theorem sI {p:PyData->Bool}{e:PyData}:∀{l:List PyData}{i:Nat},(∀j<i,∀d,l[j]?=some d->p d=false)->l[i]?=some e->p e=true->l.find? p=some e
 |[],i,_,h,_=>by simp at h
 |d::l,0,_,h,q=>by
  simp at h;subst h;simp[z54,q]
 |d::l,i+1,a,h,q=>by
  have hd:=a 0 (yc9 _) d rfl;rw[z54,hd];exact sI (i:=i) (λj c x b=>a (j+1) (Nat.succ_lt_succ c) x (by simpa using b)) (by simpa using h) q
theorem zj4 {p:PyData->Bool}{l:List PyData}(h:∀(j:Nat) d,l[j]?=some d->p d=false):l.find? p=none:=by
 rw[List.find?_eq_none];intro x a;obtain⟨j,b⟩:=List.mem_iff_getElem?.mp a;rw[h j x b];simp
def jX :List A->(A->Prop)->Prop:=λas Q=>∃x,as=[.dat (.str x)]/\x∈words/\Q (.dat (dB x))
def tR (C:Addr)(cs:Cs):List A->(A->Prop)->Prop:=λas Q=>∃ds x day,as=[.dat (yh C cs ds),.dat (.str x),.dat (.int day)]/\Rules ds/\x∈words/\Q (.dat (zk ds x day))
section
variable {P:Program}{w:World}{K:PySem.W.Frag}{mg:Str->Option Value}{base:Heap}{cs:Cs}
theorem bW (F:FnD K mg "kept_rules" zs8 ["things"])(nb:NbT mg)(k:∃t,mg "MOST_RULES"=some (.int 24 t))(g:Cal P w K mg base "rule_of" 7 (nh cs)):Cal P w K mg base "kept_rules" 8 (zd4 cs):=by
 refine zN ["things","kept","number","thing","rule"] F λ_ _ _ _ _ _ _ _ Q nd hr h=>?_;obtain⟨ds,rfl,j,m,q⟩:=h;and_intros;refine yq (.many [2,3]) (tH (by rfl) nb.enumerate (zh 0 rfl (⟨_,rfl,?_⟩)));refine zP (λi α=>∃v2 c v4,α=[some (.dat (.list ds)),some (.own ((ds.take i).map (uk cs))),v2,c,v4]) ⟨none,none,none,rfl⟩ ?_ ?_
 ·rintro i d α hd ⟨v2,c,v4,rfl⟩;obtain⟨e,he,rfl⟩:=xt hd;have f:=(j e (z23 he)).1;have hi:=(zX5.mp he).1;obtain⟨s',a,b,v,n,rfl,l⟩:=vI (cs:=cs) f;have e:(ds.take (i+1)).map (uk cs)=(ds.take i).map (uk cs)++[uk cs (.tuple [.str s',a,b,v])]:=by
   rw[z42,he,z22];rfl
  rw[e];refine⟨_,rfl,?_⟩;and_intros;refine⟨f,?_⟩;and_intros;refine⟨by rw[zX0,z35];lia,?_⟩;and_intros;exact⟨_,_,_,rfl⟩
 ·rintro α ⟨v2,c,v4,rfl⟩;rw[xr,z58];refine xV (jH 1 rfl (zp5 (pY (by rfl) nb.len (zh 1 rfl ⟨_,rfl,wa (by rfl) k ⟨_,_,rfl,rfl,?_⟩⟩))));refine zC (zZ7 ?_) ?_
  ·rw[zX0]
   lia
  ·and_intros;exact q
theorem oI {ds:List PyData}(f:Rules ds):wU (ds.map (uk cs))=true:=by
 induction ds with
 |nil=>rfl
 |cons d r j=>
  have e:=j λx h=>f x (zX8 _ h);have h1:=(f d zX9).1;obtain⟨s',a,b,v,k,rfl,g⟩:=vI (cs:=cs) h1;obtain⟨_,_,_,_,c,i,_,_,_,hw⟩:=yR h1;cases i;have z3:=(vJ c hw).2;rw[zZ2,g];simp only[wU,e,Bool.and_true];simp[uO,xH,noL,sf,z3]
theorem zV6 :ya ["self","rules"] ["self","rules"] (zg xi):=.o
theorem cL {f C:Addr}{dV:Value}{fd:FuncData}(F:zy2 K "__init__" "Book.__init__" xi dV f fd)(c:Cls K C)(na:yy K C "kept")(b:Cal P w K mg base "kept_rules" 8 (zd4 cs)):yC P w K mg base CX0 9 f fd ["self","rules"] (spI C (uJ C cs)):=by
 refine zO0 (N:=[]) F zV6 c na rfl (λas Q h=>?_) (λcdv g outer s H E as Q hr h=>?_) (λ_ _ _ _ _ _=>rfl) (Or.inl rfl)
 ·obtain⟨ds,h|⟨h,_⟩,_⟩:=h<;>rw[h]<;>rfl
 ·obtain⟨ds,h|⟨h,hz⟩,a,e,q⟩:=h
  ·subst h;exact wJ b hr (by rfl) (zm (lI (vb (zh 1 rfl (sH (zh 1 rfl (zx ⟨_,rfl,a,e,_,rfl,oI a,q⟩)))))))
  ·subst h hz;exact wJ b hr (by rfl) (zm (lI (vb (zh 1 rfl (rF (EvL.d (wI (zx ⟨_,rfl,z20 rfl,zx ⟨[],rfl,a,e,_,rfl,oI a,q⟩⟩))))))))
theorem zR5 :zJ ["self"] (zg vU) ["rule"] [none] zd3:=⟨rfl,by decide +kernel,by decide +kernel,by decide +kernel,by decide +kernel,rfl,by decide +kernel⟩
theorem lH {f C:Addr}{fd:FuncData}(c:Cls K C)(na:yy K C "kept")(l:Meth K C "rules" f)(F:Fun K "rules" "Book.rules" vU f fd)(hb:Binds K fd ["self"] [])(O:∀g∈words,xh P w K mg base (cs.of g) "told" 2 (lR (cs.of g) g)):xh P w K mg base C "rules" 3 (tN C cs):=by
 refine oC ["self"] c l F hb λ_ _ _ _ _ _ _ Q nd hr h=>?_;obtain⟨ds,rfl,j,k,q⟩:=h;refine vT (dQ (pat:=.one 0) rfl zR5 rfl (λ_ _ _ _=>yd (i:=0) zR5.nd rfl (Or.inl rfl)) (zK (wL c na (zh 0 rfl ⟨_,_,rfl,rfl,⟨_,rfl,by rw[zX0];exact k,?comp⟩⟩))))
 case comp=>
  refine fQ (λi acc=>acc=ds.take i) rfl ?_ (λacc h=>?_)
  ·rintro i d acc hd rfl;rw[zY3,zZ4]at hd;obtain⟨e,he,rfl⟩:=hd;obtain⟨s',a,b,v,n,rfl,o⟩:=vI (cs:=cs) (j e (z23 he)).1;refine⟨_,rfl,λC s2 m fp=>km ?_⟩;rw[if_pos rfl];refine λC s2 m fp=>rB (O s' n) hr (zh 0 rfl ⟨_,rfl,rfl,_,_,_,rfl,?_⟩);show ds.take i++[_]=ds.take (i+1);rw[z42,he];rfl
  ·rw[zX0,z58]at h;rw[h];exact q
theorem iH {a:Addr}(F:FnD K mg "usual" eO ["word"])(d:mg "USUAL"=some (.ref a))(b:jI K w a tbU):Cal P w K mg base "usual" 1 jX:=by
 refine zN ["word"] F λ_ _ _ _ _ _ _ _ Q nd hr h=>?_;obtain⟨x,rfl,c,q⟩:=h;obtain⟨v,h1,h2⟩:=zH2 c;exact xv (bN (by rfl) d b (zh 0 rfl ⟨x,dB x,v,rfl,h1,h2,q⟩))
theorem kd {f C:Addr}{fd:FuncData}(c:Cls K C)(na:yy K C "kept")(D:Meth K C "tells_of" f)(F:Fun K "tells_of" "Book.tells_of" jz f fd)(hb:Binds K fd ["self","word","day"] [])(nb:NbT mg)(s:Cal P w K mg base "usual" 1 jX)(A:∀u∈words,xh P w K mg base (cs.of u) "word" 1 (pN (cs.of u) u))(B:∀u∈words,xh P w K mg base (cs.of u) "tells" 1 (sL (cs.of u)))
  (p:∀u∈words,Cls K (cs.of u)/\yy K (cs.of u) "worth"):xh P w K mg base C "tells_of" 2 (tR C cs):=by
 refine oC ["self","word","day","rule"] c D F hb λ_ _ _ _ _ _ _ Q nd hr h=>?_;obtain⟨ds,x,day,rfl,r,y,q⟩:=h;refine yq (.one 3) (zH6 (by rfl) nb.reversed (wL c na (zh 0 rfl ⟨_,_,rfl,rfl,⟨_,rfl,?_⟩⟩)));refine zP (λi α=>(∃n,α=[some (.dat (yh C cs ds)),some (.dat (.str x)),some (.dat (.int day)),n])/\∀j<i,∀d,ds.reverse[j]?=some d->zg9 x day d=false) ⟨⟨none,rfl⟩,λj o=>absurd o (Nat.not_lt_zero _)⟩ ?_ ?_
 ·rintro i d α hd ⟨⟨n,rfl⟩,hno⟩;rw[<-List.map_reverse,zY3,zZ4]at hd;obtain⟨e,he,rfl⟩:=hd;have m:e∈ds:=List.mem_reverse.mp (z23 he);obtain⟨u,a,b,v,l,rfl,_,_,_,_⟩:=yR (r e m).1;refine⟨_,rfl,?_⟩;refine xV (EvW.t (zj6 (λ_ k=>zy1 (rB (A u l) hr (zh 3 rfl ⟨_,rfl,rfl,_,_,_,rfl,zh 1 rfl ⟨_,_,rfl,rfl,k⟩⟩)))
   (λE _ k=>oi (cH (ve (B u l) hr (zh 3 rfl ⟨_,rfl,rfl,zm (zh 2 rfl (zx ⟨_,_,_,_,rfl,_,rfl,k⟩))⟩)))) ?_))
  refine vP (λh=>?_) (λh=>?_)
  ·refine xv (wL (p u l).1 (p u l).2 (zh 3 rfl ⟨_,_,rfl,rfl,?_⟩));have e1:ds.reverse.find? (zg9 x day)=some (.tuple [.str u,.int a,.int b,v]):=sI hno he h;unfold zk at q;rw[e1]at q;exact q
  ·refine zF (zF ⟨⟨_,rfl⟩,λj o d' g=>?_⟩);rcases z91 j i with z|z
   ·exact hno j z d' g
   ·have:j=i:=by lia
    subst this;rw[he]at g;cases g;exact h
 ·rintro α ⟨⟨n,rfl⟩,hno⟩;refine xv (vA s (hr.mono (by decide)) (by rfl) (zm (zh 1 rfl (zx ⟨x,rfl,y,?_⟩))));have e1:ds.reverse.find? (zg9 x day)=none:=zj4 λj d hd=>hno j (by
   have:=(zX5.mp hd).1;rw[z63,zX0]
   rwa [z63]at this) d hd
  unfold zk at q;rw[e1]at q;exact q
end
structure vc (d:PyData):Prop where
 rule:xk d=true
 nice:zZ 20011 d
 dep:d.depth<=2
 wn:zZ 5000 (iw d)
def zt (ds:List PyData):Prop:=∀d∈ds,vc d
theorem qO {s:Str}(h:s∈words):zZ 2000 (.str s):=by
 simp only[words,zX6,zZ1,z08]at h;rcases h with rfl|rfl|rfl|rfl|rfl|rfl|rfl<;>exact⟨rfl,rfl,zY9 _,by decide +kernel,by decide +kernel⟩
theorem vc.of {s:Str}{i j:Int}{d:PyData}(e:s∈words)(g:0<=i)(f:i<=j)(h:j<=1000000)(hw:zT (.str s) d=true)(hn:zZ 5000 d)(hd:d.depth<=1):vc (.tuple [.str s,.int i,.int j,d]):=by
 have c:(1000001:Int)<big:=by decide
 have b:-big<(0:Int):=by decide
 have na:yi 5000 [.str s,.int i,.int j,d]:=by
  constructor
  ·intro x a;simp only[zX6,zZ1,z08]at a;rcases a with rfl|rfl|rfl|rfl
   ·exact(qO e).mono (by decide)
   ·exact(zZ.int (by lia) (by lia)).mono (by decide)
   ·exact(zZ.int (by lia) (by lia)).mono (by decide)
   ·exact hn
  ·intro x a;simp only[zX6,zZ1,z08]at a;rcases a with rfl|rfl|rfl|rfl
   ·exact zY9 _
   ·exact zY9 _
   ·exact zY9 _
   ·lia
 refine⟨?_,zZ.tuple na (by show 4*(5000+2)+3<=20011;decide),?_,hn⟩
 ·show(wV (.tuple [.int i,.int j])&&zT (.str s) d)=true;rw[hw,Bool.and_true];unfold wV zD3;have h1:(hG (.int i)&&hG (.int j))=true:=by
   show((decide (0<=i)&&decide (i<=1000000))&&(decide (0<=j)&&decide (j<=1000000)))=true;simp only[z24,z37]
   lia
  simp only[h1,z92,z37]
  lia
 ·simp only[PyData.depth,PyData.depthAll]
  lia
theorem zt.rules {ds:List PyData}(h:zt ds):Rules ds:=λd hd=>⟨(h d hd).rule,(h d hd).nice.shaped,(h d hd).nice.nod⟩
theorem zt.nice {ds:List PyData}(h:zt ds)(a:ds.length<=100):zZ sizeLine (.list ds):=by
 refine zZ.list (n:=20011) ⟨λd hd=>(h d hd).nice,λd hd=>by have:=(h d hd).dep;lia⟩ ?_;have h2:ds.length*(20011+2)<=100*(20011+2):=z71 _ a;have h3:100*(20011+2)+2<=sizeLine:=by decide
 lia
theorem zg1 {ds:List PyData}{lo hi:Option Int}{d:PyData}(h:d∈L2.cutD ds lo hi):d∈ds:=by
 unfold L2.cutD at h;exact List.mem_of_mem_drop (yb3 h)
theorem zl3 {ds:List PyData}{lo hi:Option Int}:(L2.cutD ds lo hi).length<=ds.length:=by
 unfold L2.cutD;rw[z35,ya9]
 lia
abbrev jh :Stmt:=top 81
abbrev kP :Stmt:=top 82
abbrev iC :Stmt:=top 83
abbrev jq :Stmt:=top 84
abbrev iz :Stmt:=top 85
theorem within_int {lo hi i:Int}(h1:lo<=i)(h2:i<=hi):yM lo hi (.int i)=true:=by
 show(decide (lo<=i)&&decide (i<=hi))=true;rw[z02 h1,z02 h2];rfl
theorem vO {i:Int}(h0:-2000000000000<=i)(h1:i<=2000000000000):zZ 2000 (.int i):=zZ.int (by unfold big;lia) (by unfold big;lia)
theorem zt.nil :zt []:=λx a=>by simp at a
theorem zt.app {ds a:List PyData}(h:zt ds)(h':zt a):zt (ds++a):=λd hd=>(z31.mp hd).elim (h d) (h' d)
theorem zt.snoc {ds:List PyData}{d:PyData}(h:zt ds)(hd:vc d):zt (ds++[d]):=h.app λx a=>by rw[zY0.mp a];exact hd
def Bd (bs a:Int):Prop:=0<=bs/\bs<=999980/\1<=a/\a<=14
def pV :Ph:=λas Q=>as=[.tape]/\∀z:Int,0<=z->z<=1000000000000->Q (.dat (.int z))
def oy :Ph:=λas Q=>∃a,as=[.tape,.dat (.str a)]/\a∈words/\∀d,zT (.str a) d=true->zZ 5000 d->d.depth<=1->Q (.dat d)
def nr :Ph:=λas Q=>∃bs a:Int,as=[.tape,.dat (.int bs),.dat (.int a)]/\Bd bs a/\∀ds,zt ds->1<=ds.length+1->ds.length<=5->Q (.own ds)
def nY :Ph:=λas Q=>∃bs a:Int,as=[.tape,.dat (.int bs),.dat (.int a)]/\Bd bs a/\∀ds,zt ds->1<=ds.length->ds.length<=5->Q (.own ds)
def oT :Ph:=λas Q=>∃bs a:Int,as=[.tape,.dat (.int bs),.dat (.int a)]/\Bd bs a/\∀ds,zt ds->1<=ds.length->ds.length<=10->Q (.dat (.list ds))
section
variable {P:Program}{w:World}{K:PySem.W.Frag}{mg:Str->Option Value}{base:Heap}
theorem gY (F:FnD K mg "_law_coins" jh ["_law_tape_here"])(a:Cal P w K mg base "_law_draw" 1 xC):Cal P w K mg base "_law_coins" 2 pV:=by
 refine zN ["_law_tape_here"] F λ_ _ _ _ _ _ _ _ Q nd hr h=>?_;obtain⟨rfl,q⟩:=h;and_intros;refine tI rfl (by assumption) (by assumption) ?_
 repeat refine⟨q _ (by lia) (by lia),?_⟩
 trivial
theorem gH (F:FnD K mg "_law_worth" kP ["_law_tape_here","_law_word"])(u:Cal P w K mg base "_law_draw" 1 xC)(t:Cal P w K mg base "_law_coins" 2 pV):Cal P w K mg base "_law_worth" 3 oy:=by
 refine zN ["_law_tape_here","_law_word","_law_many"] F λ_ _ _ _ _ _ _ _ Q nd hr h=>?_;obtain⟨i,rfl,hw,q⟩:=h;have g:∀z:Int,0<=z->z<=1000000000000->zT (.str i) (.int z)=true->Q (.dat (.int z)):=λz a b h=>q _ h ((vO (by lia) (by lia)).mono (by decide)) (zY9 _);have k:zT (.str i) .none=true->Q (.dat .none):=λh=>q _ h (zZ.none.mono (by decide)) (zY9 _);have l:∀b,zT (.str i) (.bool b)=true->Q (.dat (.bool b)):=λb h=>q _ h ((zZ.bool _).mono (by decide)) (zY9 _);have s:∀m f:Int,i="deal"->2<=m->m<=14->1<=f->f<m->Q (.dat (.tuple [.int m,.int f])):=λm f e a b c d=>by
  subst e;exact q _ (z72.mpr ⟨within_int a b,within_int c (by lia)⟩) (zZ.tuple (n:=2000) (yi.two (vO (by lia) (by lia)) (vO (by lia) (by lia)) (zY9 _) (zY9 _)) (by show 2*(2000+2)+3<=5000;decide)) (zX7 _)
 simp only[words,zX6,zZ1,z08]at hw;rcases hw with rfl|rfl|rfl|rfl|rfl|rfl|rfl<;>and_intros
 ·refine⟨rfl,λr a1 j=>?_⟩;and_intros;refine⟨rfl,λp a2 o=>?_⟩;and_intros;exact tI rfl (by assumption) (by assumption) ⟨k rfl,g r a1 j (within_int a1 j),g p a2 o (within_int a2 o),trivial⟩
 ·exact l _ rfl
 ·exact l _ rfl
 ·exact g _ (by lia) (by lia) (within_int (by lia) (by lia))
 ·exact g _ (by lia) (by lia) (within_int (by lia) (by lia))
 ·refine tI rfl (by assumption) (by assumption) ⟨k rfl,?_⟩
  repeat refine⟨s _ _ rfl (by lia) (by lia) (by lia) (by lia),?_⟩
  trivial
 ·refine⟨rfl,λz a b=>?_⟩;exact g z a b (within_int a b)
theorem mS (F:FnD K mg "_law_price_rules" iC ["_law_tape_here","_law_base","_law_days"])(nb:NbT mg)(E:Cal P w K mg base "_law_draw" 1 xC)(x:Cal P w K mg base "_law_coins" 2 pV):Cal P w K mg base "_law_price_rules" 3 nY:=by
 refine zN ["_law_tape_here","_law_base","_law_days","_law_found","_law_k","_law_first","_law_worth_here"] F λ_ _ _ _ _ _ _ _ Q nd hr h=>?_;obtain⟨bs,k,rfl,⟨t,D,z,u⟩,q⟩:=h;have e:∀{c:Int},0<=c->c<=1000000000000->zT (.str "price") (.int c)=true/\zZ 5000 (.int c)/\(PyData.int c).depth<=1:=λa b=>⟨within_int a b,(vO (by lia) (by lia)).mono (by decide),zY9 _⟩;refine xl 3 nd ?_;and_intros;refine⟨rfl,λB p1 f=>?_⟩;and_intros;refine yq (.one 4) (xW (by rfl) nb.range ?_);and_intros;refine⟨by lia,by lia,?_⟩;refine zP (λi α=>∃v4 g v6 ds,α=[some .tape,some (.dat (.int bs)),some (.dat (.int k)),some (.own ds),v4,g,v6]/\zt ds/\1<=ds.length/\ds.length<=1+i) ⟨none,none,none,_,rfl,zt.nil.snoc (vc.of (by simp[words]) (by lia) (by lia) (by lia) (e p1 f).1 (e p1 f).2.1 (e p1 f).2.2),zX7 _,zX7 _⟩ ?_ ?_
 ·rintro i d α hd ⟨v4,g,v6,ds,rfl,j,l1,ld⟩;have hi:=(zX5.mp hd).1;rw[zX0,zd]at hi;refine⟨_,rfl,?_⟩;and_intros;refine⟨rfl,λy p5 r=>?_⟩;and_intros;refine⟨rfl,λC p6 o=>?_⟩;and_intros;refine⟨rfl,λA s n=>?_⟩;and_intros;refine jg (λd=>zT (.str "price") d=true/\zZ 5000 d/\d.depth<=1) rfl (by assumption) (by assumption) ⟨⟨rfl,zZ.none.mono (by decide),zY9 _⟩,e p5 r,e p6 o,e s n,trivial⟩ ?_;rintro v ⟨p,l,m⟩;and_intros;refine⟨by lia,?_⟩;and_intros;exact⟨_,_,_,_,rfl,j.snoc (vc.of (by simp[words]) (by lia) (by lia) (by lia) p l m),by simp,by simp;lia⟩
 ·rintro α ⟨v4,g,v6,ds,rfl,j,l1,ld⟩;rw[zX0,zd]at ld;exact xo 3 rfl (q ds j l1 (by lia))
theorem kq (F:FnD K mg "_law_other_rules" jq ["_law_tape_here","_law_base","_law_days"])(nb:NbT mg)(r:Cal P w K mg base "_law_draw" 1 xC)(o:Cal P w K mg base "_law_worth" 3 oy):Cal P w K mg base "_law_other_rules" 4 nr:=by
 refine zN ["_law_tape_here","_law_base","_law_days","_law_found","_law_k","_law_word","_law_first"] F λ_ _ _ _ _ _ _ _ Q nd hr h=>?_;obtain⟨bs,e,rfl,⟨k,p,l,m⟩,q⟩:=h;and_intros;refine yq (.one 4) (xW (by rfl) nb.range ?_);and_intros;refine⟨by lia,by lia,?_⟩;refine zP (λi α=>∃v4 b v6 ds,α=[some .tape,some (.dat (.int bs)),some (.dat (.int e)),some (.own ds),v4,b,v6]/\zt ds/\ds.length<=i) ⟨none,none,none,_,rfl,zt.nil,zX7 _⟩ ?_ ?_
 ·rintro i d α hd ⟨v4,b,v6,ds,rfl,a,ld⟩;have hi:=(zX5.mp hd).1;rw[zX0,zd]at hi;refine⟨_,rfl,?_⟩;and_intros;refine jg (λd=>∃x,d=.str x/\x∈words) rfl (by assumption) (by assumption) ?_ ?_
  ·repeat refine⟨⟨_,rfl,by simp[words]⟩,?_⟩
   trivial
  rintro _ ⟨n,rfl,hw⟩;and_intros;refine⟨hw,λj g f c=>?_⟩;and_intros;refine⟨by lia,?_⟩;and_intros;exact⟨_,_,_,_,rfl,a.snoc (vc.of hw (by lia) (by lia) (by lia) g f c),by simp;lia⟩
 ·rintro α ⟨v4,b,v6,ds,rfl,a,ld⟩;rw[zX0,zd]at ld;exact xo 3 rfl (q ds a (by lia) (by lia))
theorem kj (F:FnD K mg "_law_rules" iz ["_law_tape_here","_law_base","_law_days"])(k:Cal P w K mg base "_law_draw" 1 xC)(i:Cal P w K mg base "_law_price_rules" 3 nY)(g:Cal P w K mg base "_law_other_rules" 4 nr):Cal P w K mg base "_law_rules" 5 oT:=by
 refine zN ["_law_tape_here","_law_base","_law_days","_law_ones","_law_others"] F λ_ _ _ _ _ _ _ _ Q nd hr h=>?_;obtain⟨bs,f,rfl,bd,q⟩:=h;refine yj 3 nd ?_;and_intros;refine⟨_,_,rfl,bd,λe b j l1=>yj 4 nd ?_⟩;and_intros;refine⟨_,_,rfl,bd,λc a _ l2=>?_⟩;refine xv (mG hr.one (λ_ _=>rfl) (EvL.d (wI (zm (EvL.d (va (zh 3 rfl (zh 4 rfl ⟨_,_,rfl,rfl,by lia,zm (EvL.d (va (zh 4 rfl (zh 3 rfl ⟨_,_,rfl,rfl,by lia,?_⟩))))⟩))))))));and_intros;exact tI rfl (by assumption) (by assumption) ⟨q _ (b.app a) (by simp;lia) (by simp;lia),q _ (a.app b) (by simp;lia) (by simp;lia),trivial⟩
end
abbrev kM :Stmt:=top 9
def rV :Ph:=λas Q=>∃c g:Int,as=[.dat (.tuple [.int c,.int g])]/\-100<=c/\c<g/\g<=c+500/\c<=1000100/\Q (.own ((zo c (g-c).toNat).map .int))
section
variable {P:Program}{w:World}{K:PySem.W.Frag}{mg:Str->Option Value}{base:Heap}{cs:Cs}
theorem lB (F:FnD K mg "nights_of" kM ["stay"])(nb:NbT mg):Cal P w K mg base "nights_of" 1 rV:=by
 refine zN ["stay"] F λ_ _ _ _ _ _ _ _ Q nd hr h=>?_;obtain⟨c,g,rfl,h1,h2,h3,a,q⟩:=h;exact vT (dR rfl (by rfl) nb.list (by rfl) nb.range (xP (λ_ _=>rfl) (zh 0 rfl (yr (⟨_,_,_,rfl,rfl,rfl,xP (λ_ _=>rfl) (zh 0 rfl (yr (⟨_,_,_,rfl,rfl,rfl,⟨_,_,rfl,rfl,⟨by lia,by lia,by lia,by lia⟩,by lia,q⟩⟩)))⟩)))))
end
abbrev yD :Stmt:=top 51
def qK :Arguments×Scope:=match zu yD with
 |[.Return (some (.Call _ _ [⟨_,.Lambda ps _ sc _,_⟩] _)) _]=>(ps,sc)
 |_=>(zR yD,zg yD)
section
variable {P:Program}{w:World}{K:PySem.W.Frag}{mg:Str->Option Value}{base:Heap}
theorem zk1 :ya ["prices","places"] ["prices","places"] (zg yD):=.o
theorem zJ1 :xT "place" "prices" qK.1 qK.2:=⟨rfl,rfl,rfl,rfl,rfl,by decide +kernel,by decide +kernel,by decide⟩
theorem zE8 {f c:Addr}{b:Around}{outer:List Env}{s:Shared}{H:Hp}{E:XK}{n1:Nat}{p1 p2 p3 p4 p5 p6:Pos}(hhd:PySem.W.codeHdIn K c yn=true)(a:K.In base)(hbi:base.BuiltinsAt mg yn):
  cK (wW CX0 P w K mg base ["prices","places"] "cheapest_first" (zg yD) f (.ref c) b outer s H E).nox c "place" "prices" n1 p1 p2 p3 p4 p5 p6 qK.1 qK.2 where
 S:=zJ1
 hy:=rfl
 hcl:=λcl h=>by
  have e:qK.2.names=[(("prices":Str),NameKind.free),(("place":Str),NameKind.local)]\/qK.2.names=[(("place":Str),NameKind.local),(("prices":Str),NameKind.free)]:=by decide +kernel
  unfold closureFor;rcases e with e|e<;>rw[e]<;>simp[cellOf,h]
 hgl:=rfl
 hco:=rfl
 hhd:=PySem.W.codeHd_of_K a hhd
 hbi:=hbi
 hdf:=rfl
 hq:=rfl
 hne:=by decide
 hb:=λu cl c' pm ctv=>rfl
 hdx:=by decide
 hdy:=by decide
 hcx:=by decide
 hcy:=by decide
def pP :Ph:=λas Q=>∃ns zs:List Int,as=[.dat (.list (zs.map .int)),.dat (.list (ns.map .int))]/\ns.length<64/\(∀n∈ns,0<=n/\n<zs.length)/\∀ms,tu ns zs ms->Q (.own (ms.map .int))
theorem iK {f c:Addr}{oc:Value}{od an:Option Addr}{osl:Array (Option Value)}{kV doc pm ct:Value}(i:K.lookup f=some ⟨oc,od,.func (PySem.W.fnOf "cheapest_first" "cheapest_first" (zR yD) (zu yD) (zg yD) .none kV doc pm an (.ref c) ct),osl⟩)(a:PySem.W.codeIn K (.ref c) "cheapest_first"=true)(kp:PySem.W.keepIn K (.ref f)=true)
  (hm:mg "cheapest_first"=some (.ref f)) (hb:Binds K (PySem.W.fnOf "cheapest_first" "cheapest_first" (zR yD) (zu yD) (zg yD) .none kV doc pm an (.ref c) ct) ["prices","places"] []) (nb:NbT mg) (hhd:PySem.W.codeHdIn K c yn=true) (e:K.In base) (hbi:base.BuiltinsAt mg yn):Cal P w K mg base "cheapest_first" 3 pP:=by
 refine⟨f,_,_,hm,kp,hb,zS3 i a zk1 (λas Q h=>by obtain⟨ns,zs,rfl,_⟩:=h;rfl) λl outer s H E as Q hr h=>?_⟩;obtain⟨ns,zs,rfl,d,b,q⟩:=h;exact vT (lG (j:=0) (k:=0) (zE8 hhd e hbi) hr (by rfl) nb.sorted rfl (zh 1 rfl ⟨ns,zs,rfl,rfl,d,b,λms g=>q ms g⟩))
end
abbrev vZ :Stmt:=top 52
def zN3 :Scope:=match zu vZ with
 |.Assign _ (.ListComp _ _ sc _) _::_=>sc
 |_=>zg vZ
def sZ :Ph:=λas Q=>∃(zs:List Int) (d:PyData),as=[.dat (.list (zs.map .int)),.dat d]/\zs.length<=500/\
 ((d=.none/\Q (.own ((List.replicate zs.length false).map .bool)))\/∃many free:Nat,d=.tuple [.int many,.int free]/\0<many/\many<64/\∀bs,tw zs many free zs.length bs->Q (.own (bs.map .bool)))
theorem fL (ns:List Int):wU (ns.map .int)=true:=by
 induction ns with
 |nil=>rfl
 |cons n ns a=>rw[zZ2,wU,a];rfl
section
variable {P:Program}{w:World}{K:PySem.W.Frag}{mg:Str->Option Value}{base:Heap}
theorem zN6 :zJ ["prices","deal","marks","bundle","place","rank","other"] (zg vZ) ["price"] [none] zN3:=⟨rfl,by decide +kernel,by decide +kernel,by decide +kernel,by decide +kernel,rfl,by decide +kernel⟩
theorem kg (F:FnD K mg "marked" vZ ["prices","deal"])(nb:NbT mg)(J:Cal P w K mg base "cheapest_first" 3 pP):Cal P w K mg base "marked" 4 sZ:=by
 refine zN ["prices","deal","marks","bundle","place","rank","other"] F λ_ _ S _ _ _ _ _ Q nd hr h=>?_;obtain⟨zs,d,rfl,hlen,h⟩:=h;refine cS 2 (pat:=.one 0) nd rfl zN6 rfl (λ_ _ _ _=>yd (i:=0) zN6.nd rfl (Or.inl rfl)) (zK (zh 0 rfl ⟨_,rfl,?_,?comp⟩))
 ·rw[zX0];lia
 refine vN (λ_=>true) (λ_=>.bool false) (λd hd=>⟨_,rfl,λ_ _ _ _ _ k=>km k,λ_ _ _ _ _ _ k=>bE k⟩) ?_;have M:([]:List PyData)++List.map (λ_=>PyData.bool false) (List.filter (λ_=>true) (List.map PyData.int zs))=(List.replicate zs.length false).map .bool:=by
  rw[z04,bP,z40,List.map_replicate];exact List.eq_replicate_iff.mpr ⟨by simp,by simp⟩
 rw[M];rcases h with⟨rfl,q⟩|⟨many,free,rfl,g,p,q⟩
 ·refine xV (vb (zh 1 rfl ?_));exact xo 2 rfl q
 refine xV (vb (zh 1 rfl (zF ?_)));refine xl 3 nd (wI (zx ⟨_,rfl,zY9 _,?_⟩));refine pQ (pat:=.one 4) z96 rfl (yd (i:=4) nd rfl (Or.inl rfl)) (xW (by rfl) nb.range (pY (by rfl) nb.len (zh 0 rfl ⟨_,rfl,⟨_,rfl,by lia,by rw[zX0];lia,?_⟩⟩)));refine zP (λi α=>∃(bs:List Bool) (B o m:Option A),tw zs many free i bs/\α=[some (.dat (.list (zs.map .int))),some (.dat (.tuple [.int many,.int free])),some (.own (bs.map .bool)),some (.own ((zo ((i / many*many:Nat):Int) (i % many)).map .int)),B,o,m]) ?_ ?_ ?_
 ·refine⟨_,none,none,none,gG zs free,?_⟩;rw[Nat.zero_mod,Nat.zero_div];rfl
 ·rintro i d α hd ⟨bs,B,o,m,mk,rfl⟩;have hi:i<zs.length:=by
   have:=(zX5.mp hd).1;simpa[zd]using this
  obtain rfl:d=.int (i:Int):=by
   rw[zY3,zU (by simpa using hi)]at hd;simpa using hd.symm
  refine⟨_,rfl,?_⟩;have G:=Nat.mod_lt i g;refine vk 3 rfl (zh 4 rfl ⟨by rw[zX0,zd];lia,?_⟩);have O:List.map PyData.int (zo ((i / many*many:Nat):Int) (i % many))++[PyData.int (i:Int)]=(zo ((i / many*many:Nat):Int) (i % many+1)).map .int:=by
   have e:=z84 i many;have L:i / many*many=many*(i / many):=yf6 _ _;rw[ng,z22]
   congr 1
   simp only[zZ2,ya5]
   congr 2
   lia
  rw[O];refine xV (jH 3 rfl (zy3 (pY (by rfl) nb.len (zh 3 rfl ⟨_,rfl,xP (λ_ _=>rfl) (zh 1 rfl (yr ⟨_,_,_,rfl,rfl,at0,_,_,rfl,rfl,?_⟩))⟩))));refine zz3 (λC=>?_) (λC=>zF ?_)
  ·have b:i % many+1=many:=by
    rw[zX0,zd]at C
    lia
   rw[b];have t:∀n∈zo ((i / many*many:Nat):Int) many,0<=n/\n<zs.length:=λn hn=>by
    rw[yB]at hn;have e:=z84 i many;have L:i / many*many=many*(i / many):=yf6 _ _
    lia
   refine pQ (pat:=.many [5,6]) z96 rfl (vX (n:=2) (K:=K) rfl rfl (wK (yd (i:=5) nd rfl (Or.inl rfl)) (wK (yd (i:=6) nd rfl (Or.inl rfl)) (tT))))
    (tH (by rfl) nb.enumerate (EvL.d (kX 3 rfl (wJ J hr (by rfl) (zm (zh 0 rfl (zm (zh 3 rfl (zx ⟨_,zs,rfl,by rw[zd];exact p,t,λms u=>⟨_,rfl,fL ms,_,rfl,?_⟩⟩)))))))))
   have x:ms.length=many:=by rw[u.1.length_eq,zd]
   refine zP (λr α=>∃(a:List Bool) (p5 p6:Option A),(a.length=bs.length/\(∀q,q<r->a.getD (ms.getD q 0).toNat false=decide (q<free))/\∀j,(∀q,q<r->(ms.getD q 0).toNat≠j)->a.getD j false=bs.getD j false)/\
    α=[some (.dat (.list (zs.map .int))),some (.dat (.tuple [.int many,.int free])),some (.own (a.map .bool)),some (.own ((zo ((i / many*many:Nat):Int) many).map .int)),some (.dat (.int i)),p5,p6]) ?_ ?_ ?_
   ·exact⟨bs,o,m,⟨rfl,λq h=>absurd h (Nat.not_lt_zero _),λ_ _=>rfl⟩,rfl⟩
   ·rintro r d α hd ⟨a,p5,p6,⟨f0,f1,f2⟩,rfl⟩;obtain⟨e,he,rfl⟩:=xt hd;have f:r<ms.length:=by
     have:=(zX5.mp he).1;simpa using this
    obtain rfl:e=.int (ms.getD r 0):=by
     rw[zY3,zX3 f]at he;rw[zY2,zX3 f];simpa using he.symm
    refine⟨_,rfl,?_⟩;have s:=uh u (q:=r) (by lia);have D:=t (ms.getD r 0) (yB.mpr s);obtain⟨j,v⟩:=z50 D.1;rw[v];have R:j<a.length:=by rw[f0,mk.1];lia
    refine zH4 2 rfl (zv4 (zh 5 rfl (xP (λ_ _=>rfl) (zh 1 rfl (yr ⟨_,_,_,rfl,rfl,zW (j:=1) rfl,_,_,rfl,rfl,zh 6 rfl ⟨_,j,rfl,?_,zF ?_⟩⟩)))))
    ·unfold ixN;rw[if_pos (by lia),if_pos (by rw[zX0];lia)];simp
    ·refine⟨a.set j (decide (r<free)),some (.dat (.int ((0+r:Nat):Int))),some (.dat (.int (j:Int))),⟨?_,λq hq=>?_,λl E=>?_⟩,?_⟩
     ·rw[z48,f0]
     ·by_cases y:q=r
      ·subst y;rw[v,ya0,zY2,z75 R];rfl
      ·have hne:(ms.getD q 0).toNat≠j:=λz=>by
        have nd:ms.Nodup:=u.1.nodup_iff.mpr (qR _ _);have a1:=(uh u (q:=q) (by lia)).1;have H:ms.getD q 0=ms.getD r 0:=by rw[v];lia
        rw[zY2,zY2,zX3 (by lia),zX3 f]at H;exact(List.pairwise_iff_getElem.mp nd q r (by lia) f (by lia)) H
       rw[zY2,z33 hne.symm,<-zY2,f1 q (by lia)]
     ·have hne:j≠l:=λz=>E r (z34 _) (by rw[v];lia);rw[zY2,z33 hne,<-zY2,f2 l λq hq=>E q (by lia)]
     ·have I:decide (((0+r:Nat):Int)<(free:Int))=decide (r<free):=by rw[decide_eq_decide];lia
      rw[I,List.map_set];rfl
   ·rintro α ⟨a,p5,p6,⟨f0,f1,f2⟩,rfl⟩;refine xl 3 nd (wI (zx ⟨_,rfl,zY9 _,zF ?_⟩));rw[xr,zX0,x]at f1 f2;refine zF ?_;refine⟨a,some (.dat (.int i)),p5,p6,gj g b mk u f0 f1 f2,?_⟩;rw[(mh g b).2.1];rfl
  ·have c:i % many+1<many:=by
    rw[zX0,zd]at C
    lia
   refine zF ?_;refine⟨bs,some (.dat (.int i)),o,m,gh g c mk,?_⟩;rw[(sY g c).1,(sY g c).2];rfl
 ·rintro α ⟨bs,B,o,m,mk,rfl⟩;have N:(List.map PyData.int (zo 0 ((List.map PyData.int zs).length:Int).toNat)).length=zs.length:=by simp[zd]
  rw[N]at mk;exact xo 2 rfl (q bs mk)
end
abbrev sNP :Stmt:=top 53
abbrev si :Stmt:=top 54
def zf8 :Scope:=match (zu si).getD 5 (.Pass ⟨0,0,0,0⟩)with
 |.Assign _ (.Call _ [.ListComp _ _ sc _] _ _) _=>sc
 |_=>zg si
def zQ1 (C:Addr)(cs:Cs):Ph:=λas Q=>∃(ds:List PyData) (ns:List Int) (pr:Int->Int),as=[.dat (yh C cs ds),.dat (.list (ns.map .int))]/\Rules ds/\ns.length<=900/\(∀z∈ns,zk ds "price" z=.int (pr z))/\Q (.own ((ns.map pr).map .int))
def dr (C:Addr)(cs:Cs):Ph:=λas Q=>∃(ds:List PyData) (c g fee:Int) (pr:Int->Int),as=[.dat (yh C cs ds),.dat (.tuple [.int c,.int g])]/\Rules ds/\0<=c/\c<g/\g<=c+400/\c<=1000000/\(∀z,c<=z->z<g->zk ds "price" z=.int (pr z)/\0<=pr z/\pr z<=1000000000000)/\
 (zk ds "deal" c=.none\/∃many free:Nat,zk ds "deal" c=.tuple [.int many,.int free]/\0<many/\many<64)/\zk ds "fee" c=.int fee/\
 ∀bs,wD (zk ds "deal" c) ((zo c (g-c).toNat).map pr) bs->Q (.dat (.tuple [.int ((yN ((zo c (g-c).toNat).map pr) bs).sum+fee),.list (we ((zo c (g-c).toNat).map .int) (((zo c (g-c).toNat).map pr).map .int) (bs.map .bool)),.int fee]))
section
variable {P:Program}{w:World}{K:PySem.W.Frag}{mg:Str->Option Value}{base:Heap}{cs:Cs}
theorem zy4 {C:Addr}(F:FnD K mg "night_prices" sNP ["book","nights"])(g:xh P w K mg base C "tells_of" 2 (tR C cs)):Cal P w K mg base "night_prices" 3 (zQ1 C cs):=by
 refine zN ["book","nights","prices","night","price"] F λ_ _ j _ _ _ _ _ Q nd hr h=>?_;obtain⟨ds,ns,pr,rfl,f,k,c,q⟩:=h;refine xl 2 nd (wI (zx ⟨_,rfl,zY9 _,?_⟩));refine pQ (pat:=.one 3) z96 rfl (yd (i:=3) nd rfl (Or.inl rfl)) (zK (zh 1 rfl ⟨_,rfl,?_⟩));refine zP (λi α=>∃b a:Option A,α=[some (.dat (yh C cs ds)),some (.dat (.list (ns.map .int))),some (.own (((ns.take i).map pr).map .int)),b,a]) ⟨none,none,rfl⟩ ?_ ?_
 ·rintro i d α hd ⟨b,a,rfl⟩;rw[zY3,zZ4]at hd;obtain⟨z,hz,rfl⟩:=hd;have hi:i<ns.length:=(zX5.mp hz).1;have e:=c z (z23 hz);refine⟨_,rfl,?_⟩;refine yj 4 nd (ve g hr (zh 0 rfl ⟨_,rfl,rfl,zm (xj (zm (zh 3 rfl (zx ⟨ds,_,_,rfl,f,by simp[words],?_⟩))))⟩));show SvS _ (List.set _ _ (some (.dat (zk ds "price" z)))) _ _;rw[e];refine xV (vb (zh 4 rfl ?_));refine vP (λh=>by cases h) (λ_=>zF ?_);refine vk 2 rfl (zh 4 rfl ⟨by rw[zX0,zX0,z35];lia,zF ⟨some (.dat (.int z)),some (.dat (.int (pr z))),?_⟩⟩);rw[z42,hz,z22,z22];rfl
 ·rintro α ⟨b,a,rfl⟩;rw[zX0,z58];exact xo 2 rfl q
theorem zK9 :zJ ["book","stay","nights","prices","marks","fee","rows","paid"] (zg si) ["row"] [none] zf8:=⟨rfl,by decide +kernel,by decide +kernel,by decide +kernel,by decide +kernel,rfl,by decide +kernel⟩
theorem za7 {C:Addr}(F:FnD K mg "bill" si ["book","stay"])(nb:NbT mg)(u:xh P w K mg base C "tells_of" 2 (tR C cs))(D:Cal P w K mg base "nights_of" 1 rV)(G:Cal P w K mg base "night_prices" 3 (zQ1 C cs))(I:Cal P w K mg base "marked" 4 sZ):
  Cal P w K mg base "bill" 5 (dr C cs):=by
 refine zN ["book","stay","nights","prices","marks","fee","rows","paid"] F λf cdv B outer s H E _ Q nd hr h=>?_;obtain⟨ds,c,g,fee,pr,rfl,o,M,L,gl,N,e,a,l,q⟩:=h;generalize hn:(g-c).toNat=n at q;have v:0<n:=by lia
 have J:n<=400:=by lia
 refine yj 2 nd (EvL.d (wJ D (hr.mono (by decide)) (by rfl) (zm (zh 1 rfl (zx ⟨c,g,rfl,by lia,L,by lia,by lia,_,rfl,?_⟩)))));rw[hn];refine yj 3 nd (EvL.d (wJ G (hr.mono (by decide)) (by rfl) (zm (zh 0 rfl (zm (zh 2 rfl (zx ⟨ds,zo c n,pr,rfl,o,by rw[zd];lia,λz hz=>(e z (yB.mp hz).1 (by have:=(yB.mp hz).2;lia)).1,_,rfl,?_⟩)))))));have m:((zo c n).map pr).length=n:=by rw[zX0,zd]
 refine yj 4 nd (EvL.d (wJ I hr (by rfl) (zm (zh 3 rfl (zm (ve u (hr.mono (by decide)) (zh 0 rfl ⟨_,rfl,rfl,zm (xj (zm (xP (λ_ _=>rfl) (zh 1 rfl (yr ⟨_,_,_,rfl,rfl,at0,zx ⟨ds,_,_,rfl,o,by simp[words],zx ⟨_,_,rfl,by lia,?_⟩⟩⟩)))))⟩)))))));have key:∀bs,wD (zk ds "deal" c) ((zo c n).map pr) bs->SvS (wW CX0 P w K mg base ["book","stay","nights","prices","marks","fee","rows","paid"] "bill" (zg si) f cdv B outer s H E).nox
   [some (.dat (yh C cs ds)),some (.dat (.tuple [.int c,.int g])),some (.dat (.list ((zo c n).map .int))),some (.dat (.list (((zo c n).map pr).map .int))),some (.dat (.list (bs.map .bool))),none,none,none] ((zu si).drop 3) {nx:=λ_=>Q (.dat .none),rt:=Q}:=by
  intro bs mk;have p:=mk.len;refine yj 5 nd (ve u (hr.mono (by decide)) (zh 0 rfl ⟨_,rfl,rfl,zm (xj (zm (xP (λ_ _=>rfl) (zh 1 rfl (yr ⟨_,_,_,rfl,rfl,at0,zx ⟨ds,_,_,rfl,o,by simp[words],?_⟩⟩)))))⟩));show SvS _ (List.set _ _ (some (.dat (zk ds "fee" c)))) _ _;rw[l];refine yj 6 nd (EvL.d (nF rfl (by rfl) nb.list (by rfl) nb.zip (zm (zh 2 rfl (zm (zh 3 rfl (zm (zh 4 rfl (zx ⟨_,_,_,rfl,?_,?_,?_,?_,?_⟩)))))))))
  ·rw[zX0,zX0,zX0]
  ·rw[zX0,zX0,p,m,zd]
  ·rw[zX0,zd];lia
  ·rw[zX0,zd];lia
  have pm:∀z∈yN ((zo c n).map pr) bs,0<=z/\z<=1000000000000:=λz hz=>by
   obtain⟨y,hy,rfl⟩:=z06.mp (vg hz);have hy:=yB.mp hy;exact(e y hy.1 (by lia)).2
  refine yj 7 nd (pR rfl (by rfl) nb.sum (EvL.d (dQ (pat:=.one 0) rfl zK9 rfl (λ_ _ _ _=>yd (i:=0) zK9.nd rfl (Or.inl rfl)) (zK (zh 6 rfl ⟨_,rfl,?_,?comp⟩)))))
  ·rw[uC (by rw[zX0,zX0,zX0]) (by rw[zX0,zX0,p,m,zd]),zX0,zd];lia
  refine vN (λd=>!tM d) (zE3 1) (λd hd=>?_) ?_
  ·obtain⟨j,A⟩:=List.mem_iff_getElem?.mp hd;obtain⟨x,y,z,e1,O,t,rfl⟩:=uH A;rw[zY3,zZ4]at t;obtain⟨b,_,rfl⟩:=t;exact⟨_,rfl,λ_ _ _ _ _ k=>dg (pf (cH (xP (λ_ _=>rfl) (zh 0 rfl (yr ⟨_,_,_,rfl,rfl,zW (j:=2) rfl,⟨_,rfl,k⟩⟩))))),λ_ _ _ _ _ _ k=>xP (λ_ _=>rfl) (zh 0 rfl (yr ⟨_,_,_,rfl,rfl,zW (j:=1) rfl,k⟩))⟩
  ·rw[z04,sq (by rw[m,zX0,zd]) (by rw[p,m,zX0,zd])];refine⟨_,rfl,λz hz=>by have:=pm z hz;lia,kr pm (zY1 (uM _ _) (by lia)),?_⟩;exact xv (mM (zm (rz (zh 7 rfl (zh 5 rfl ⟨_,_,rfl,rfl,zm (zh 6 rfl (zm (zh 5 rfl (zx ⟨_,rfl,z20 rfl,q bs mk⟩))))⟩)))))
 rcases a with hd|⟨many,free,hd,m0,r⟩
 ·exact .inl ⟨hd,⟨_,rfl,key _ (.inl ⟨hd,rfl⟩)⟩⟩
 ·exact .inr ⟨many,free,hd,m0,r,λbs mk=>⟨_,rfl,key bs (.inr ⟨many,free,hd,mk⟩)⟩⟩
end
abbrev nV :Stmt:=top 56
abbrev zQ5 :Stmt:=top 57
abbrev zw5 :Stmt:=top 58
abbrev zR9 :Stmt:=top 59
theorem gQ {x:Str}(h:x∈words):zT (.str x) (dB x)=true:=by
 simp only[words,zX6,zZ1,z08]at h;rcases h with rfl|rfl|rfl|rfl|rfl|rfl|rfl<;>decide +kernel
theorem yu {ds:List PyData}(h:∀d∈ds,xk d=true){x:Str}(a:x∈words)(day:Int):zT (.str x) (zk ds x day)=true:=by
 unfold zk;split
 ·rename_i d e;obtain⟨u,i,j,v,b,rfl,_,_,_,hw⟩:=yR (h d (List.mem_reverse.mp (List.mem_of_find?_eq_some e)));have:=List.find?_some e;have h2:(decide (u=x)&&(decide (i<=day)&&decide (day<=j)))=true:=this;rw[z24,z37]at h2;rw[<-h2.1];exact hw
 ·exact gQ a
def isF :PyData->Bool
 |.bool b=>!b
 |_=>false
def intOf :PyData->Int
 |.int i=>i
 |_=>0
section
variable {ds:List PyData}(h:∀d∈ds,xk d=true)(day:Int)
include h
theorem zy5 :∃b,zk ds "come" day=.bool b:=bool_inv (by rw[<-kb];exact yu h (by simp[words]) day)
theorem zT4 :∃b,zk ds "go" day=.bool b:=bool_inv (by rw[<-zd5];exact yu h (by simp[words]) day)
theorem zl6 :∃i,zk ds "least" day=.int i/\1<=i/\i<=14:=zB (by rw[<-oV];exact yu h (by simp[words]) day)
theorem zB4 :∃i,zk ds "most" day=.int i/\1<=i/\i<=14:=zB (by rw[<-lh];exact yu h (by simp[words]) day)
theorem zL1 :∃i,zk ds "fee" day=.int i/\0<=i/\i<=1000000000000:=zB (by
 have:=yu h (x:="fee") (by simp[words]) day;rw[fv]at this;exact this)
theorem zn7 :zk ds "price" day=.none\/∃i,zk ds "price" day=.int i/\0<=i/\i<=1000000000000:=by
 have:=yu h (x:="price") (by simp[words]) day;rw[mv,z83]at this;rcases this with z|z
 ·left;cases e:zk ds "price" day with
  |none=>rfl
  |_=>rw[e]at z;cases z
 ·exact .inr (zB z)
end
def pB (x:Str)(d:Int):PyData:=.tuple [.str x,.int d]
def xJ (ds:List PyData)(c:Int)(n:Nat):List PyData:=((zo c n).filter λz=>wC (zk ds "price" z)).map (pB "price")
def opt (b:Bool)(d:PyData):List PyData:=if b=true then [d]else []
def xK (ds:List PyData)(c g:Int):List PyData:=xJ ds c (g-c).toNat++opt (isF (zk ds "come" c)) (pB "come" c)++opt (isF (zk ds "go" g)) (pB "go" g)++opt (decide (g-c<intOf (zk ds "least" c))) (pB "least" c)++opt (decide (intOf (zk ds "most" c)<g-c)) (pB "most" c)
theorem uj (b:Bool)(d:PyData):(opt b d).length<=1:=by unfold opt;split<;>simp
theorem uW (ds:List PyData)(c:Int)(n:Nat):(xJ ds c n).length<=n:=by
 unfold xJ;rw[zX0];have:=List.length_filter_le (λz=>wC (zk ds "price" z)) (zo c n);rw[zd]at this;exact this
def oh (C:Addr)(cs:Cs):Ph:=λas Q=>∃ds c g,as=[.dat (yh C cs ds),.dat (.tuple [.int c,.int g])]/\Rules ds/\-100<=c/\c<g/\g<=c+100/\c<=1000100/\Q (.own (xK ds c g))
def zm5 :Scope:=match zu nV with
 |[_,_,.Assign _ (.ListComp _ _ sc _) _,_,_,_,_,_]=>sc
 |_=>zg nV
section
variable {P:Program}{w:World}{K:PySem.W.Frag}{mg:Str->Option Value}{base:Heap}{cs:Cs}
theorem zN4 :zJ ["book","stay","come","go","told"] (zg nV) ["night","book"] [none,some 0] zm5:=⟨rfl,by decide +kernel,by decide +kernel,by decide +kernel,by decide +kernel,rfl,by decide +kernel⟩
theorem oU (ds:List PyData)(ns:List Int)(f:PyData->Bool)(hf:∀z,f (.int z)=wC (zk ds "price" z))(g:PyData->PyData)(hg:∀z,g (.int z)=pB "price" z):((ns.map PyData.int).filter f).map g=(ns.filter λz=>wC (zk ds "price" z)).map (pB "price"):=by
 rw[List.filter_map,z40];have e1:(f∘PyData.int)=λz=>wC (zk ds "price" z):=funext hf;have a:(g∘PyData.int)=pB "price":=funext hg;rw[e1,a]
def zK4 :PyData->Int
 |.int z=>z
 |_=>0
abbrev ox (C:Addr)(cs:Cs)(ds:List PyData)(c g:Int)(l:List PyData):List (Option A):=[some (.dat (yh C cs ds)),some (.dat (.tuple [.int c,.int g])),some (.dat (.int c)),some (.dat (.int g)),some (.own l)]
theorem af {C:Addr}(F:FnD K mg "bars" nV ["book","stay"])(t:Cal P w K mg base "nights_of" 1 rV)(u:xh P w K mg base C "tells_of" 2 (tR C cs)):Cal P w K mg base "bars" 3 (oh C cs):=by
 refine zN ["book","stay","come","go","told"] F λ_ _ _ _ _ _ _ _ Q nd hr h=>?_;obtain⟨ds,c,g,rfl,a,v,y,g1,x,q⟩:=h;have j:∀d∈ds,xk d=true:=λd hd=>(a d hd).1;refine yj 2 nd (xP (λ_ _=>rfl) (zh 1 rfl (yr (⟨_,_,_,rfl,rfl,rfl,?_⟩))));refine yj 3 nd (xP (λ_ _=>rfl) (zh 1 rfl (yr (⟨_,_,_,rfl,rfl,rfl,?_⟩))));refine xx (·=ox C cs ds c g (xJ ds c (g-c).toNat)) ?_ ?_
 ·refine cS 4 (pat:=.one 0) nd rfl zN4 rfl (λ_ _ _ _=>yd (i:=0) zN4.nd rfl (by first|exact Or.inl rfl|exact Or.inr rfl)) (zK (EvL.d (wJ t (hr.mono (by decide)) (by rfl) (zm (zh 1 rfl (zx (⟨c,g,rfl,by lia,by lia,by lia,by lia,⟨_,rfl,⟨_,rfl,⟨by rw[zX0,zd];lia,?comp⟩⟩⟩⟩)))))))
  case comp=>
   refine vN (λd=>wC (zk ds "price" (zK4 d))) (λd=>pB "price" (zK4 d)) (λd hd=>?_) ?_
   ·obtain⟨z,_,rfl⟩:=z06.mp hd;refine⟨_,rfl,λC s2 s fp Q k=>dg (vb (ve u hr (zh 1 rfl ⟨_,rfl,rfl,zm (xj (zm (zh 0 rfl (zx ⟨ds,_,_,rfl,a,by simp[words],k⟩))))⟩))),λ_ C s2 s fp Q k=>mM (zm (xj (zm (zh 0 rfl (zx (⟨_,rfl,z20 rfl,k⟩))))))⟩
   ·refine zF ?_;rw[z04,oU ds _ _ (λ_=>rfl) _ (λ_=>rfl)];rfl
 rintro α rfl;have r:=uW ds c (g-c).toNat;obtain⟨m,f⟩:=zy5 j c;obtain⟨n,o⟩:=zT4 j g;obtain⟨e,p,_,_⟩:=zl6 j c;obtain⟨im,em,_,_⟩:=zB4 j c;have B:∀(l:List PyData) (b:Bool) (d:PyData) (k:Nat),l.length<=k->(l++opt b d).length<=k+1:=λl b d k h=>by have:=uj b d;rw[zZ9];lia
 have l1:=B _ (isF (zk ds "come" c)) (pB "come" c) _ r;have l2:=B _ (isF (zk ds "go" g)) (pB "go" g) _ l1;have l3:=B _ (decide (g-c<intOf (zk ds "least" c))) (pB "least" c) _ l2;unfold xK at q;rw[f,o,p,em]at q;rw[f,o,p]at l3;rw[f,o]at l2;rw[f]at l1;refine xx (·=ox C cs ds c g (xJ ds c (g-c).toNat++opt (isF (.bool m)) (pB "come" c))) ?_ ?_
 ·and_intros;refine⟨ds,_,_,rfl,a,by simp[words],⟨m,by rw[f];rfl,?_⟩⟩;cases m<;>and_intros
  ·exact⟨by lia,zF (zF rfl)⟩
  ·exact congrArg (ox C cs ds c g) (z39 _).symm
 rintro α rfl;generalize xJ ds c (g-c).toNat++opt (isF (.bool m)) (pB "come" c)=acc at *;refine xx (·=ox C cs ds c g (acc++opt (isF (.bool n)) (pB "go" g))) ?_ ?_
 ·and_intros;refine⟨ds,_,_,rfl,a,by simp[words],⟨n,by rw[o];rfl,?_⟩⟩;cases n<;>and_intros
  ·exact⟨by lia,zF (zF rfl)⟩
  ·exact congrArg (ox C cs ds c g) (z39 _).symm
 rintro α rfl;generalize acc++opt (isF (.bool n)) (pB "go" g)=acc at *;refine xx (·=ox C cs ds c g (acc++opt (decide (g-c<e)) (pB "least" c))) ?_ ?_
 ·and_intros;refine⟨ds,_,_,rfl,a,by simp[words],⟨_,e,rfl,p,?_⟩⟩;generalize decide (g-c<e)=b;cases b<;>and_intros
  ·exact congrArg (ox C cs ds c g) (z39 _).symm
  ·exact⟨by lia,zF (zF rfl)⟩
 rintro α rfl
 change (acc++opt (decide (g-c<e)) (pB "least" c)).length<=_ at l3
 change Q (.own (acc++opt (decide (g-c<e)) (pB "least" c)++_))at q
 generalize acc++opt (decide (g-c<e)) (pB "least" c)=acc at *;refine xx (·=ox C cs ds c g (acc++opt (decide (im<g-c)) (pB "most" c))) ?_ ?_
 ·and_intros;refine⟨ds,_,_,rfl,a,by simp[words],⟨_,im,rfl,em,?_⟩⟩;generalize decide (im<g-c)=b;cases b<;>and_intros
  ·exact congrArg (ox C cs ds c g) (z39 _).symm
  ·exact⟨by lia,zF (zF rfl)⟩
 rintro α rfl;exact xo 4 rfl q
end
theorem bF {d:PyData}(h:sW d=true):∃many free:Nat,d=.tuple [.int many,.int free]/\0<free/\free<many/\many<64:=by
 unfold sW at h;split at h
 ·rename_i m r;rw[z24]at h;obtain⟨i,e,c,i1⟩:=zB h.1;obtain⟨j,a,b,f⟩:=zB h.2;subst a;injection e with e;subst e;refine⟨m.toNat,j.toNat,?_,by lia,by lia,by lia⟩;rw[show((m.toNat:Nat):Int)=m by lia,show((j.toNat:Nat):Int)=j by lia]
 ·cases h
theorem za2 {ds:List PyData}(h:∀d∈ds,xk d=true)(day:Int):zd0 (zk ds "deal" day):=by
 have:=yu h (x:="deal") (by simp[words]) day;rw[lX,z83]at this;rcases this with z|z
 ·left;cases e:zk ds "deal" day with
  |none=>rfl
  |_=>rw[e]at z;cases z
 ·exact .inr (bF z)
theorem zt.all {ds:List PyData}(h:zt ds):∀d∈ds,xk d=true:=λd hd=>(h d hd).rule
def mx (ds:List PyData)(c g:Int):Prop:=∀z,c<=z->z<g->wC (zk ds "price" z)=false
def prs (ds:List PyData)(c g:Int):List Int:=(zo c (g-c).toNat).map λz=>intOf (zk ds "price" z)
def uu (ds:List PyData)(c:Int):Int:=intOf (zk ds "fee" c)
theorem rj {ds:List PyData}{c g z:Int}(h:zt ds)(s:mx ds c g)(h0:c<=z)(h1:z<g):zk ds "price" z=.int (intOf (zk ds "price" z))/\0<=intOf (zk ds "price" z)/\intOf (zk ds "price" z)<=1000000000000:=by
 rcases zn7 h.all z with e|⟨i,e,a,i1⟩
 ·have:=s z h0 h1;rw[e]at this;cases this
 ·rw[e];exact⟨rfl,a,i1⟩
theorem jt {ds:List PyData}(h:zt ds)(c:Int):zk ds "fee" c=.int (uu ds c)/\0<=uu ds c/\uu ds c<=1000000000000:=by
 obtain⟨i,e,a,i1⟩:=zL1 h.all c;unfold uu;rw[e];exact⟨rfl,a,i1⟩
def yk (c g:Int):Prop:=0<=c/\c<g/\g<=c+14/\g<=1000000
def oq (C:Addr)(cs:Cs):Ph:=λas Q=>∃(ds:List PyData) (c g:Int),as=[.dat (yh C cs ds),.dat (.tuple [.int c,.int g])]/\zt ds/\yk c g/\mx ds c g/\
 ∀bs rows,wD (zk ds "deal" c) (prs ds c g) bs->Q (.dat (.tuple [.int ((yN (prs ds c g) bs).sum+uu ds c),rows,.int (uu ds c)]))
def tX (ds:List PyData)(c g:Int):Bool:=(xK ds c g).isEmpty
noncomputable def zf1 (ds:List PyData)(c g:Int):List Bool:=Classical.epsilon λbs=>wD (zk ds "deal" c) (prs ds c g) bs
noncomputable def coD (ds:List PyData)(c g:Int):Int:=(yN (prs ds c g) (zf1 ds c g)).sum+uu ds c
noncomputable def coO (ds:List PyData)(c g:Int):Option Int:=if tX ds c g=true then some (coD ds c g)else none
def oD :Option Int->PyData
 |some z=>.int z
 |none=>.none
theorem zf2 {ds:List PyData}{c g y:Int}(b:zt ds)(a:mx ds c g)(h:y∈prs ds c g):0<=y/\y<=1000000000000:=by
 obtain⟨z,hz,rfl⟩:=z06.mp h;have hz:=yB.mp hz;exact(rj b a hz.1 (by lia)).2
theorem zb0 {b:Int}:∀{ns:List Int},(∀n∈ns,0<=n/\n<=b)->0<=ns.sum/\ns.sum<=b*ns.length
 |[],_=>by simp
 |n::ns,h=>by
  have h1:=h n zX9;have h2:=zb0 λm hm=>h m (zX8 _ hm);rw[z59,zY7];have:b*((ns.length+1:Nat):Int)=b*ns.length+b:=by rw[yf9,Int.mul_add];simp
  lia
theorem zu2 {ds:List PyData}{c g:Int}{bs:List Bool}(a:zt ds)(b:mx ds c g)(mk:wD (zk ds "deal" c) (prs ds c g) bs):(yN (prs ds c g) bs).sum+uu ds c=coD ds c g:=by
 have h2:wD (zk ds "deal" c) (prs ds c g) (zf1 ds c g):=Classical.epsilon_spec (p:=λbs=>wD (zk ds "deal" c) (prs ds c g) bs) ⟨bs,mk⟩;unfold coD;rw[ak (za2 a.all c) mk h2]
theorem xI {α:Type}{a b:List α}:(a++b).isEmpty=(a.isEmpty&&b.isEmpty):=by cases a<;>rfl
theorem tU {b:Bool}{d:PyData}:(opt b d).isEmpty=!b:=by cases b<;>rfl
theorem zi2 {ds:List PyData}{c g:Int}:tX ds c g=true↔mx ds c g/\isF (zk ds "come" c)=false/\isF (zk ds "go" g)=false/\¬g-c<intOf (zk ds "least" c)/\¬intOf (zk ds "most" c)<g-c:=by
 unfold tX xK;rw[xI,xI,xI,xI,tU,tU,tU,tU];have:(xJ ds c (g-c).toNat).isEmpty=true↔mx ds c g:=by
  unfold xJ mx;rw[List.isEmpty_iff,yg3,List.filter_eq_nil_iff];refine⟨λh z a b=>?_,λh z hz=>?_⟩
  ·have:=h z (yB.mpr ⟨a,by lia⟩);simpa using this
  ·have hz:=yB.mp hz;rw[h z hz.1 (by lia)];decide
 simp only[z24,this,ya1,z38,and_assoc]
theorem wH {ds:List PyData}{c g:Int}(h:tX ds c g=true):mx ds c g:=(zi2.mp h).1
theorem nN {ds:List PyData}{c g:Int}(e:c<=g){d:PyData}(h:d∈xK ds c g):∃(x:Str) (z:Int),d=pB x z/\x∈words/\c<=z/\z<=g:=by
 unfold xK at h;simp only[z31]at h;have a:∀{b:Bool} {x:Str} {z:Int},d∈opt b (pB x z)->d=pB x z:=λ{b x z} h=>by
  cases b
  ·simp[opt]at h
  ·simpa[opt]using h
 rcases h with(((h|h)|h)|h)|h
 ·obtain⟨z,hz,rfl⟩:=z06.mp h;have hz:=yB.mp (List.mem_filter.mp hz).1;exact⟨_,z,rfl,by simp[words],hz.1,by lia⟩
 ·exact⟨_,c,a h,by simp[words],by lia,by lia⟩
 ·exact⟨_,g,a h,by simp[words],by lia,by lia⟩
 ·exact⟨_,c,a h,by simp[words],by lia,by lia⟩
 ·exact⟨_,c,a h,by simp[words],by lia,by lia⟩
theorem kJ {x:Str}{z:Int}(c:x∈words)(h0:-100<=z)(h1:z<=2000000):zZ 5000 (pB x z)/\(pB x z).depth<=1:=by
 have a:(2000001:Int)<big:=by decide
 have b:-big<(-100:Int):=by decide
 exact⟨zZ.tuple (n:=2000) (yi.two (qO c) (zZ.int (by lia) (by lia)) (zY9 _) (zY9 _)) (by show 2*(2000+2)+3<=5000;decide),by simp[pB,PyData.depth,PyData.depthAll]⟩
theorem bu {ds:List PyData}{c g:Int}:(xK ds c g).length<=(g-c).toNat+4:=by
 unfold xK;simp only[zZ9];have h0:=uW ds c (g-c).toNat;have h1:=uj (isF (zk ds "come" c)) (pB "come" c);have h2:=uj (isF (zk ds "go" g)) (pB "go" g);have h3:=uj (decide (g-c<intOf (zk ds "least" c))) (pB "least" c);have a:=uj (decide (intOf (zk ds "most" c)<g-c)) (pB "most" c)
 lia
theorem xR {ds:List PyData}{c g:Int}(f:yk c g):zZ sizeLine (.list (xK ds c g)):=by
 obtain⟨i,h,g1,g2⟩:=f;refine zZ.list (n:=5000) ⟨λd hd=>?_,λd hd=>?_⟩ ?_
 ·obtain⟨x,z,rfl,e,a,b⟩:=nN (by lia) hd;exact(kJ e (by lia) (by lia)).1
 ·obtain⟨x,z,rfl,e,a,b⟩:=nN (by lia) hd;have:=(kJ e (z:=z) (by lia) (by lia)).2
  lia
 ·have h2:(xK ds c g).length*(5000+2)<=18*(5000+2):=z71 _ (by have:=bu (ds:=ds) (c:=c) (g:=g);lia);have h3:18*(5000+2)+2<=sizeLine:=by decide
  lia
theorem zC8 {ds:List PyData}{c g:Int}(a:zt ds)(e:yk c g)(h:tX ds c g=true):0<=coD ds c g/\coD ds c g<=15000000000000:=by
 obtain⟨j,i,g1,g2⟩:=e;have d:=wH h;have f:=(jt a c).2;have s:=zb0 (b:=1000000000000) (ns:=yN (prs ds c g) (zf1 ds c g)) λn hn=>zf2 a d (vg hn);have l:=uM (prs ds c g) (zf1 ds c g);have l2:(prs ds c g).length<=14:=by unfold prs;rw[zX0,zd];lia
 unfold coD
 lia
theorem zm4 {ds:List PyData}:PyData.eqv (.list ds) (.list [])=ds.isEmpty:=by
 cases ds<;>rfl
def jc (C:Addr)(cs:Cs):Ph:=λas Q=>∃(ds:List PyData) (c g:Int),as=[.dat (yh C cs ds),.dat (.tuple [.int c,.int g])]/\zt ds/\yk c g/\Q (.dat (.bool (tX ds c g)))
def ah (C:Addr)(cs:Cs):Ph:=λas Q=>∃(ds:List PyData) (c g:Int),as=[.dat (yh C cs ds),.dat (.tuple [.int c,.int g])]/\zt ds/\yk c g/\Q (.dat (oD (coO ds c g)))
def dD (C:Addr)(cs:Cs):Ph:=λas Q=>∃(ds:List PyData) (c g:Int),as=[.dat (yh C cs ds),.dat (.tuple [.int c,.int g])]/\zt ds/\yk c g/\tX ds c g=true/\Q (.dat (.int (coD ds c g)))
section
variable {P:Program}{w:World}{K:PySem.W.Frag}{mg:Str->Option Value}{base:Heap}{cs:Cs}
theorem fJ {C:Addr}(b:Cal P w K mg base "bill" 5 (dr C cs)):Cal P w K mg base "bill" 5 (oq C cs):=by
 refine b.imp λas Q h=>?_;obtain⟨ds,c,g,rfl,a,⟨d,n,g1,g2⟩,i,q⟩:=h;refine⟨ds,c,g,uu ds c,λz=>intOf (zk ds "price" z),rfl,a.rules,d,n,by lia,by lia,λz l j=>rj a i l j,?_,(jt a c).1,λbs mk=>q bs _ mk⟩;rcases za2 a.all c with e|⟨m,f,e,f0,o,k⟩
 ·exact .inl e
 ·exact .inr ⟨m,f,e,by lia,k⟩
theorem zl0 {C:Addr}(F:FnD K mg "can_be_had" zQ5 ["book","stay"])(e:Cal P w K mg base "bars" 3 (oh C cs)):Cal P w K mg base "can_be_had" 4 (jc C cs):=by
 refine zN ["book","stay"] F λ_ _ i _ _ _ _ _ Q nd hr h=>?_;obtain⟨ds,c,g,rfl,b,a,q⟩:=h;obtain⟨f,j,g1,g2⟩:=id a;and_intros;refine⟨ds,c,g,rfl,b.rules,by lia,by lia,by lia,by lia,?_⟩;and_intros;exact eqk (xR a).shaped rfl (xR a).nod rfl (by rw[show PyData.eqv (A.own (xK ds c g)).d (.list [])=tX ds c g from zm4];exact q)
theorem za5 {C:Addr}(F:FnD K mg "cost" zw5 ["book","stay"])(f:Cal P w K mg base "bars" 3 (oh C cs))(j:Cal P w K mg base "bill" 5 (oq C cs)):Cal P w K mg base "cost" 6 (dD C cs):=by
 refine zN ["book","stay","found"] F λ_ _ _ _ _ _ _ _ Q nd hr h=>?_;obtain⟨ds,c,g,rfl,b,d,a,q⟩:=h;obtain⟨i,k,g1,g2⟩:=id d;have e:xK ds c g=[]:=List.isEmpty_iff.mp a;and_intros;refine⟨ds,c,g,rfl,b.rules,by lia,by lia,by lia,by lia,?_⟩;rw[e];and_intros;refine⟨ds,c,g,rfl,b,d,wH a,λbs rows mk=>?_⟩;and_intros;show Q _;rw[zu2 b (wH a) mk];exact q
theorem zg0 {C:Addr}(F:FnD K mg "cost_or_none" zR9 ["book","stay"])(f:Cal P w K mg base "can_be_had" 4 (jc C cs))(d:Cal P w K mg base "bill" 5 (oq C cs)):Cal P w K mg base "cost_or_none" 6 (ah C cs):=by
 refine zN ["book","stay"] F λ_ _ _ _ _ _ _ _ Q nd hr h=>?_;obtain⟨ds,c,g,rfl,a,b,q⟩:=h;and_intros;refine⟨ds,c,g,rfl,a,b,?_⟩;and_intros;refine mE (λe=>?_) (λe=>?_)
 ·and_intros;refine⟨ds,c,g,rfl,a,b,wH e,λbs rows mk=>?_⟩;and_intros;show Q _;rw[zu2 a (wH e) mk];unfold coO at q;rw[if_pos e]at q;exact q
 ·and_intros;unfold coO at q;rw[if_neg (by rw[e];decide)]at q;exact q
end
abbrev zL7 :Stmt:=top 61
abbrev sLW :Stmt:=top 62
abbrev bG :Stmt:=top 63
abbrev cp :Stmt:=top 64
abbrev zv7 :Stmt:=top 65
instance (c g:Int):Decidable (yk c g):=by unfold yk;infer_instance
noncomputable def coB (Bs:List (List PyData)):Co:=λn b e=>if yk b e then coO (Bs.getD n []) b e else none
def yf (Bs:List (List PyData)):Prop:=∀ds∈Bs,zt ds
def zH (C:Addr)(cs:Cs)(Bs:List (List PyData)):PyData:=.list (Bs.map (yh C cs))
theorem pW {Bs:List (List PyData)}{n:Nat}{ds:List PyData}{b e:Int}(h:Bs[n]?=some ds)(a:yk b e):coB Bs n b e=coO ds b e:=by
 unfold coB;rw[if_pos a,zY2,h];rfl
theorem wQ {Bs:List (List PyData)}{n:Nat}{b e x:Int}(d:yf Bs)(hn:n<Bs.length)(h:coB Bs n b e=some x):yk b e/\tX (Bs.getD n []) b e=true/\x=coD (Bs.getD n []) b e/\0<=x/\x<=15000000000000:=by
 unfold coB at h;split at h
 ·rename_i c;unfold coO at h;split at h
  ·rename_i a;cases h;have:=zC8 (d _ (by rw[zY2,zX3 hn];exact z57 hn)) c a;exact⟨c,a,rfl,this.1,this.2⟩
  ·cases h
 ·cases h
noncomputable abbrev arrOf (Bs:List (List PyData))(W:List Way)(day:Int):List (Int×Part):=uN (coB Bs) Bs.length W day
noncomputable abbrev kE (Bs:List (List PyData))(c g:Int):List Way:=yb (coB Bs) Bs.length c (g-c).toNat
noncomputable abbrev bestOf (Bs:List (List PyData))(c g:Int):PyData:=nO (coB Bs) Bs.length c g
def zr5 (C:Addr)(cs:Cs):Ph:=λas Q=>∃(Bs:List (List PyData)) (W:List Way) (day:Int),as=[.dat (zH C cs Bs),.dat (yT (W.map tm)),.dat (.int day)]/\yf Bs/\Bs.length<=8/\W.length<=20/\(∀w∈W,yk w.1 day/\yg W w.1=some w.2)/\Q (.own ((arrOf Bs W day).map wA))
def zK3 (C:Addr)(cs:Cs):Ph:=λas Q=>∃(Bs:List (List PyData)) (c g:Int),as=[.dat (zH C cs Bs),.dat (.tuple [.int c,.int g])]/\yf Bs/\Bs.length<=8/\yk c g/\Q (.dat (yT ((kE Bs c g).map tm)))
def dh (W:List Way)(c g:Int):Prop:=W.length<=20/\∃(co:Co) (N:Nat),wj co N c (g-c).toNat W
def jW :Ph:=λas Q=>∃(W:List Way) (c g:Int),as=[.dat (yT (W.map tm)),.dat (.tuple [.int c,.int g])]/\dh W c g/\yk c g/\(∃p,yg W g=some p)/\Q (.own ((wB W c (g-c).toNat g).reverse.map yo))
def jk :Ph:=λas Q=>∃(W:List Way) (c g:Int),as=[.dat (yT (W.map tm)),.dat (.tuple [.int c,.int g])]/\dh W c g/\yk c g/\Q (.own ((xM W c (g-c).toNat).map .int))
def eX (C:Addr)(cs:Cs):Ph:=λas Q=>∃(Bs:List (List PyData)) (c g:Int),as=[.dat (zH C cs Bs),.dat (.tuple [.int c,.int g])]/\yf Bs/\Bs.length<=8/\yk c g/\∀S,Q (.deep (bestOf Bs c g) S)
theorem rG {co:Co}{N:Nat}{c:Int}:∀k,(yb co N c k).length<=k+1
 |0=>zX7 _
 |k+1=>by
  have:=rG (co:=co) (N:=N) (c:=c) k;unfold yb nG;split
  ·lia
  ·rw[zZ9,ye6];lia
theorem xU {α:Type}{f:α->PyData}(h:∀x,noL (f x)=true):∀l:List α,wU (l.map f)=true
 |[]=>rfl
 |x::l=>by rw[zZ2,wU,h x,xU h l]<;>rfl
theorem yJ {α:Type}{f:α->PyData}(h:∀x,(f x).hasDict=false):∀l:List α,PyData.hasDictAll (l.map f)=false
 |[]=>rfl
 |x::l=>by rw[zZ2,PyData.hasDictAll,h x,yJ h l]<;>rfl
theorem isEmpty_map {α β:Type}{f:α->β}{l:List α}:(l.map f).isEmpty=l.isEmpty:=by cases l<;>rfl
section
variable {P:Program}{w:World}{K:PySem.W.Frag}{mg:Str->Option Value}{base:Heap}{cs:Cs}
theorem jm {co:Co}{N:Nat}{day:Int}:∀W:List Way,(uN co N W day).length<=W.length*N
 |[]=>by simp[uN]
 |w::W=>by
  have a:=jm (co:=co) (N:=N) (day:=day) W;unfold uN at a ⊢;rw[List.flatMap_cons,zZ9,zY7,Nat.add_mul];have:(eZ co N day w).length<=N:=by
   unfold eZ;exact zY1 (List.length_filterMap_le _ _) (by simp)
  lia
def uw (co:Co)(j:Nat)(day:Int)(w:Way):List (Int×Part):=(List.range j).filterMap λn=>(co n w.1 day).map λx=>(w.2.1+x,(w.1,day,n))
theorem bR {co:Co}{j:Nat}{day:Int}{w:Way}:(uw co j day w).length<=j:=by
 unfold uw;exact zY1 (List.length_filterMap_le _ _) (by simp)
theorem zm7 {C:Addr}(F:FnD K mg "arrivals" zL7 ["books","ways","day"])(nb:NbT mg)(v:Cal P w K mg base "cost_or_none" 6 (ah C cs)):Cal P w K mg base "arrivals" 7 (zr5 C cs):=by
 refine zN ["books","ways","day","found","begin","number","book","coins"] F λ_ _ t _ _ _ _ _ Q nd hr h=>?_;obtain⟨Bs,W,day,rfl,r,bl,wl,ws,q⟩:=h;refine xl 3 nd ?_;and_intros;refine yq (.one 4) (zp0 (zh 1 rfl ⟨_,rfl,?_⟩));refine zP (λi α=>∃n b a c:Option A,α=[some (.dat (zH C cs Bs)),some (.dat (yT (W.map tm))),some (.dat (.int day)),some (.own ((arrOf Bs (W.take i) day).map wA)),n,b,a,c]) ⟨none,none,none,none,rfl⟩ ?_ ?_
 ·rintro i d α hd ⟨n,b,a,c,rfl⟩;rw[zY3,zY3,Option.map_map,zZ4]at hd;obtain⟨u,m,rfl⟩:=hd;have l:=z23 m;have hi:=(zX5.mp m).1;refine⟨_,rfl,?_⟩;refine yq (.many [5,6]) (tH (by rfl) nb.enumerate (zh 0 rfl ⟨_,rfl,?_⟩));refine zP (λj α=>∃b a c:Option A,α=[some (.dat (zH C cs Bs)),some (.dat (yT (W.map tm))),some (.dat (.int day)),some (.own ((arrOf Bs (W.take i) day++uw (coB Bs) j day u).map wA)),some (.dat (.int u.1)),b,a,c]) ⟨b,a,c,by rw[show uw (coB Bs) 0 day u=[]from rfl,z39]<;>rfl⟩ ?_ ?_
  ·rintro j d α hd ⟨b,a,c,rfl⟩;obtain⟨e,he,rfl⟩:=xt hd;rw[zY3,zZ4]at he;obtain⟨ds,f,rfl⟩:=he;have s:=(zX5.mp f).1;have o:=pW f (ws u l).1;have p:uw (coB Bs) (j+1) day u=uw (coB Bs) j day u++((coB Bs j u.1 day).map λx=>(u.2.1+x,(u.1,day,j))).toList:=by
    unfold uw;rw[List.range_succ,List.filterMap_append];simp only[yb9,List.filterMap_nil];cases(coB Bs j u.1 day)<;>rfl
   refine⟨_,rfl,?_⟩;and_intros;refine⟨ds,u.1,day,rfl,r ds (z23 f),(ws u l).1,?_⟩;and_intros;refine vP (λg=>?_) (λg=>?_)
   ·cases ex:coO ds u.1 day with
    |none=>rw[ex]at g;cases g
    |some x=>
     and_intros;refine vR (k:=.inl u.1) rfl (by rw[yW,(ws u l).2]<;>rfl) ?_;and_intros;refine⟨?_,?_⟩
     ·have l1:(arrOf Bs (W.take i) day).length<=(W.take i).length*Bs.length:=jm _;have l2:=bR (co:=coB Bs) (j:=j) (day:=day) (w:=u);have l3:(W.take i).length*Bs.length<=20*8:=Nat.mul_le_mul (by rw[z35];lia) bl;rw[zX0,zZ9]
      lia
     ·and_intros;have e1:List.map wA (arrOf Bs (W.take i) day++uw (coB Bs) (j+1) day u)=List.map wA (arrOf Bs (W.take i) day++uw (coB Bs) j day u)++[wA (u.2.1+x,(u.1,day,j))]:=by
       rw[p,o,ex,<-List.append_assoc,z22 (l₂:=(Option.map _ _).toList)];rfl
      exact⟨_,_,_,by rw[e1,Nat.zero_add]<;>rfl⟩
   ·and_intros;have hn:coO ds u.1 day=none:=by
     cases ex:coO ds u.1 day with
     |none=>rfl
     |some x=>rw[ex]at g;cases g
    have e1:uw (coB Bs) (j+1) day u=uw (coB Bs) j day u:=by
     rw[p,o,hn];simp only[Option.map_none,Option.toList_none,z39]
    exact⟨_,_,_,by rw[e1]<;>rfl⟩
  ·rintro α ⟨b,a,c,rfl⟩;and_intros;have:arrOf Bs (W.take (i+1)) day=arrOf Bs (W.take i) day++uw (coB Bs) Bs.length day u:=by
    unfold arrOf uN;rw[z42,m,List.flatMap_append];simp[eZ,uw]
   exact⟨_,_,_,_,by rw[this,xr,zX0]⟩
 ·rintro α ⟨n,b,a,c,rfl⟩;rw[zX0,zX0,z58];exact xo 3 rfl q
theorem zB1 {C:Addr}(F:FnD K mg "least_ways" sLW ["books","stay"])(nb:NbT mg)(r:Cal P w K mg base "arrivals" 7 (zr5 C cs)):Cal P w K mg base "least_ways" 8 (zK3 C cs):=by
 refine zN ["books","stay","ways","day","found"] F λ_ _ s _ _ _ _ _ Q nd hr h=>?_;obtain⟨Bs,c,g,rfl,n,bl,⟨t,v,g1,g2⟩,q⟩:=h;refine zi1 2 nd (di ?_);and_intros;refine⟨.inl c,rfl,?_⟩;refine yq (.one 3) (xY (by rfl) nb.range ?_);and_intros;refine⟨⟨by lia,by lia,by lia,by lia⟩,?_⟩;refine zP (λi α=>∃m k:Option A,α=[some (.dat (zH C cs Bs)),some (.dat (.tuple [.int c,.int g])),some (.dic ((yb (coB Bs) Bs.length c i).map tm)),m,k]) ⟨none,none,rfl⟩ ?_ ?_
 ·rintro i d α hd ⟨m,k,rfl⟩;rw[zY3,zZ4]at hd;obtain⟨z,hz,rfl⟩:=hd;have hi:=(zX5.mp hz).1;rw[zd]at hi;rw[zU hi]at hz;cases hz;have o:(i:Int)<g-c:=by lia
  have f:=zi9 (co:=coB Bs) (N:=Bs.length) c i;have wl:=rG (co:=coB Bs) (N:=Bs.length) (c:=c) i;refine⟨_,rfl,?_⟩;refine yj 4 nd (EvL.d (dP 2 rfl ?_));and_intros;refine⟨Bs,yb (coB Bs) Bs.length c i,c+1+(i:Int),rfl,n,bl,by lia,λu j=>⟨?_,f.find j⟩,?_⟩
  ·have h1:=f.low u j;have h2:=f.top u j;exact⟨by lia,by lia,by lia,by lia⟩
  refine⟨_,rfl,xU (λ_=>rfl) _,?_⟩;and_intros;have nx:yb (coB Bs) Bs.length c (i+1)=nG (coB Bs) Bs.length (yb (coB Bs) Bs.length c i) (c+1+(i:Int)):=rfl;unfold nG at nx;rw[show(!(List.map wA (arrOf Bs (yb (coB Bs) Bs.length c i) (c+1+(i:Int)))).isEmpty)=!(arrOf Bs (yb (coB Bs) Bs.length c i) (c+1+(i:Int))).isEmpty by rw[isEmpty_map]];refine vP (λb=>?_) (λb=>?_)
  ·have ne:arrOf Bs (yb (coB Bs) Bs.length c i) (c+1+(i:Int))≠[]:=λe=>by rw[e]at b;cases b
   rw[if_neg ne]at nx;refine zm9 2 hr.one rfl (zi6 rfl hr.few (by rfl) nb.min ?_);and_intros;refine⟨λe=>ne (yg3.mp e),yJ (λ_=>rfl) _,aG _,λd hd=>?_,?_⟩
   ·obtain⟨p,_,rfl⟩:=z06.mp hd;exact⟨rfl,by simp[wA,yo,PyData.depth,PyData.depthAll]⟩
   rw[zi3 ne];and_intros;refine⟨.inl (c+1+(i:Int)),rfl,by rw[zX0];lia,?_⟩;and_intros;have fn:yg (yb (coB Bs) Bs.length c i) (c+1+(i:Int))=none:=by
    cases e:yg (yb (coB Bs) Bs.length c i) (c+1+(i:Int))with
    |none=>rfl
    |some p=>
     have:=f.top _ (find_some (x:=p.1) (l:=p.2) e);have:c+1+(i:Int)<=c+i:=this
     lia
   exact⟨_,_,by rw[nx,<-aM fn]<;>rfl⟩
  ·have e:arrOf Bs (yb (coB Bs) Bs.length c i) (c+1+(i:Int))=[]:=by
    cases e:arrOf Bs (yb (coB Bs) Bs.length c i) (c+1+(i:Int))with
    |nil=>rfl
    |cons a l=>rw[e]at b;cases b
   rw[if_pos e]at nx;and_intros;exact⟨_,_,by rw[nx]<;>rfl⟩
 ·rintro α ⟨m,k,rfl⟩;rw[zX0,zd,show(g+1-(c+1)).toNat=(g-c).toNat by lia];refine zG0 2 rfl ?_;and_intros;exact q
theorem zi5 (F:FnD K mg "cut_of" bG ["ways","stay"])(nb:NbT mg):Cal P w K mg base "cut_of" 1 jW:=by
 refine zN ["ways","stay","backwards","day","part"] F λ_ _ B _ _ _ _ _ Q nd hr h=>?_;obtain⟨W,c,g,rfl,⟨wl,co,N,b⟩,⟨C,z,g1,g2⟩,⟨t,j⟩,q⟩:=h;refine xl 2 nd ?_;and_intros;generalize hn:(g-c).toNat=n at b q;refine cz z96 (λm α=>∃(s:Option A) (d:Int) (p:Int×Option Part) (acc:List Part),α=[some (.dat (yT (W.map tm))),some (.dat (.tuple [.int c,.int g])),some (.own (acc.map yo)),some (.dat (.int d)),s]/\yg W d=some p/\d-c<=m/\acc.length+m<=n/\wB W c n g=acc++wB W c m d) n ⟨none,g,t,[],rfl,j,by lia,by simp,rfl⟩ ?_;rintro m α ⟨s,d,p,acc,rfl,fd,D,al,f⟩;have o:=find_some (x:=p.1) (l:=p.2) fd;have lo:c<=d:=b.low _ o;and_intros;refine mE (λi=>?_) (λi=>?_)
 ·have a:d≠c:=by simpa using i
  obtain⟨m,rfl⟩:∃k,m=k+1:=⟨m-1,by lia⟩;rcases b.step _ o with e|⟨u,v,k,y,h1,h2,h3,e⟩
  ·injection e with e _;exact absurd e a
  have h1:u.1<d:=h1;have e:(d,p.1,p.2)=(d,u.2.1+y,some (u.1,d,k)):=e;have r:p=(u.2.1+y,some (u.1,d,k)):=by injection e
  and_intros;refine vR (k:=.inl d) rfl (by rw[yW,fd]<;>rfl) ?_;rw[r];and_intros;refine⟨by rw[zX0];lia,?_⟩;and_intros;refine⟨m,by lia,_,u.1,u.2,acc++[(u.1,d,k)],by rw[z22]<;>rfl,b.find v,by lia,by rw[zZ9,ye6];lia,?_⟩;rw[f,wB,if_neg a,fd,r,List.append_assoc];rfl
 ·have a:d=c:=by simpa using i
  subst a;refine vT (kX 2 rfl (kD rfl (by rfl) nb.list (by rfl) nb.reversed ?_));and_intros;have:wB W d m d=[]:=by cases m<;>simp[wB]
  rw[this,z39]at f;rw[f]at q;rw[<-List.map_reverse];exact⟨xU (λ_=>rfl) _,q⟩
theorem gq (F:FnD K mg "paper_of" cp ["ways","stay"])(nb:NbT mg):Cal P w K mg base "paper_of" 1 jk:=by
 refine zN ["ways","stay","highest","heights"] F λ_ _ _ _ _ _ _ _ Q nd hr h=>?_;obtain⟨W,c,g,rfl,⟨wl,co,N,a⟩,⟨i,j,g1,g2⟩,q⟩:=h;refine yj 2 nd (zg8 rfl (by rfl) nb.max (EvL.d (yt ["way"] [none] (.one 0) (ze0 ?_))));and_intros;refine⟨by rw[zX0,zX0];lia,?_⟩;rw[z40];refine zw (λu=>.int u.2.1) (λu f=>⟨_,rfl,λ_ _ _ _ _ k=>?_⟩) ?_
 ·and_intros;exact k
 refine⟨rE W,by unfold rE;rw[z40]<;>rfl,λe=>?_,?_⟩
 ·obtain⟨r,hr,_⟩:=a.first;rw[hr]at e;cases e
 generalize hn:(g-c).toNat=n at a q;refine uE 3 ["day","ways","highest"] [none,some 0,some 2] (.one 0) (xY (by rfl) nb.range ?_);and_intros;refine⟨⟨by lia,by lia,by lia,by lia⟩,by rw[zX0,zd];lia,?_⟩;rw[show(g+1-c).toNat=n+1 by lia];refine zw (λd=>.int (hW W d)) (λd hd=>⟨_,rfl,λ_ _ _ _ _ k=>?_⟩) ?_
 ·and_intros;refine nk (k:=.inl d) rfl ?_;rw[yW];cases e:yg W d with
  |none=>
   and_intros;rw[tQ e]at k;exact k
  |some p=>
   and_intros;refine vR (k:=.inl d) rfl (by rw[yW,e]<;>rfl) ?_;and_intros;rw[wu (x:=p.1) (l:=p.2) e]at k;exact k
 refine vK 3 rfl ?_;refine vT (yt ["lower","higher"] [none,none] (.many [0,1]) (aE (by rfl) nb.zip ?_));and_intros;have b:(zo c (n+1)).map (λd=>PyData.int (hW W d))=((zo c (n+1)).map (hW W)).map PyData.int:=by rw[z40]<;>rfl
 rw[z04,b,aA];refine⟨by rw[zX0,zd];lia,?_⟩;refine zw (λd=>.int (hW W (d+1)-hW W d)) (λd hd=>⟨_,rfl,λ_ _ _ _ _ k=>?_⟩) ?_
 ·and_intros;exact k
 ·unfold xM at q;rw[z40]at q;exact q
theorem cX {C:Addr}(F:FnD K mg "best" zv7 ["books","stay"])(nb:NbT mg)(m:Cal P w K mg base "least_ways" 8 (zK3 C cs))(l:Cal P w K mg base "cut_of" 1 jW)(i:Cal P w K mg base "paper_of" 1 jk):Cal P w K mg base "best" 9 (eX C cs):=by
 refine zN ["books","stay","ways"] F λ_ _ _ _ _ _ _ _ Q nd hr h=>?_;obtain⟨Bs,c,g,rfl,d,bl,a,q⟩:=h;obtain⟨j,n,g1,g2⟩:=id a;have f:=zi9 (co:=coB Bs) (N:=Bs.length) c (g-c).toNat;have wl:=rG (co:=coB Bs) (N:=Bs.length) (c:=c) (g-c).toNat;have b:dh (kE Bs c g) c g:=⟨by show(yb _ _ _ _).length<=20;lia,_,_,f⟩;and_intros;refine⟨Bs,c,g,rfl,d,bl,a,?_⟩;and_intros;refine nk (k:=.inl g) rfl ?_;rw[yW];unfold bestOf nO at q;cases e:yg (kE Bs c g) g with
 |none=>
  rw[e]at q;refine vn rfl ?_;refine jD (eG (xS (mJ (xj ⟨rfl,?_⟩))));refine xS (pE (dZ rfl (by rfl) nb.list (zh 2 rfl ⟨_,rfl,?_⟩)));rw[z40];refine⟨xU (λ_=>rfl) _,jf ⟨z20 rfl,?_⟩⟩;exact q
 |some p=>
  rw[e]at q;refine zC rfl (zF ?_);refine jD (eG (xS (mJ (xj ⟨rfl,?_⟩))));refine xS (mJ ?_);and_intros;refine vR (k:=.inl g) rfl (by rw[yW,e]<;>rfl) ?_;and_intros;refine⟨rfl,xS (pE ?_)⟩;and_intros;refine⟨_,c,g,rfl,b,a,⟨p,e⟩,_,rfl,xU (λ_=>rfl) _,xS (pE ?_)⟩;and_intros;refine⟨_,c,g,rfl,b,a,_,rfl,xU (λ_=>rfl) _,jf ⟨z20 rfl,?_⟩⟩;exact q
end
structure jK (Bs:List (List PyData))(c g x:Int)(ps:List Part)(pp:List Int):Prop where
 eq:bestOf Bs c g=.tuple [.str "had",.int x,.list (ps.map yo),.list (pp.map .int)]
 cut:Cut (coB Bs) Bs.length c g x ps
 least:∀y qs,Cut (coB Bs) Bs.length c g y qs->x<=y
 plen:pp.length=(g-c).toNat
 psum:pp.sum=x
 paper:∀n b e y,n<Bs.length->c<=b->b<e->e<=g->coB Bs n b e=some y->((pp.drop (b-c).toNat).take (e-b).toNat).sum<=y
 pbd:∀n∈pp,-300000000000000<=n/\n<=300000000000000
theorem zy8 {co:Co}{N:Nat}{a b z:Int}{ps:List Part}(h:Cut co N a b z ps)(h0:∀n b e x,n<N->co n b e=some x->0<=x/\x<=15000000000000):0<=z/\z<=15000000000000*(b-a):=by
 induction h with
 |nil a=>lia
 |@cons a e b x z n ps h1 h2 h3 h ih=>
  have:=h0 _ _ _ _ h2 h3
  lia
theorem zx0 {co:Co}{N:Nat}{c:Int}{n:Nat}{W:List Way}(a:wj co N c n W)(hn:n<=14)(h0:∀n b e x,n<N->co n b e=some x->0<=x/\x<=15000000000000)(d:Int):0<=hW W d/\hW W d<=210000000000000:=by
 have one:∀w∈W,0<=w.2.1/\w.2.1<=210000000000000:=λw hw=>by
  have t:=a.top w hw;have l:=a.low w hw;have:=zy8 (a.back n (d:=w.1) (x:=w.2.1) (l:=w.2.2) hw (by lia)) h0
  lia
 cases e:yg W d with
 |some p=>
  rw[wu (x:=p.1) (l:=p.2) e];exact one _ (find_some (x:=p.1) (l:=p.2) e)
 |none=>
  rw[tQ e];have:ua (rE W)∈rE W:=zc2 λz=>by
   obtain⟨r,hr,_⟩:=a.first;rw[hr]at z;cases z
  unfold rE at this;obtain⟨w,hw,f⟩:=z06.mp this;have:=one w hw;unfold zm8 rE;rw[<-f];exact this
structure iE (Bs:List (List PyData))(c g:Int)(ds:List Int):Prop where
 eq:bestOf Bs c g=.tuple [.str "off",.list (ds.map .int)]
 none:∀y qs,¬Cut (coB Bs) Bs.length c g y qs
 first:∃r,ds=c::r
 sort:ds.Pairwise (·<·)
 rng:∀d∈ds,c<=d/\d<g
 shut:∀d∈ds,∀e n y,d<e->e<=g->n<Bs.length->coB Bs n d e=some y->e∈ds
theorem rH {Bs:List (List PyData)}{c g:Int}(w:yf Bs)(A:yk c g):(∃x ps pp,jK Bs c g x ps pp)\/∃ds,iE Bs c g ds:=by
 obtain⟨D,E,g1,g2⟩:=A;obtain⟨n,hn⟩:∃n:Nat,g=c+n:=⟨(g-c).toNat,by lia⟩;subst hn;have j:(c+(n:Int)-c).toNat=n:=by lia
 have a:=zi9 (co:=coB Bs) (N:=Bs.length) c n;have h0:∀m b e x,m<Bs.length->coB Bs m b e=some x->0<=x:=λm b e x hm h=>(wQ w hm h).2.2.2.1;have eq:bestOf Bs c (c+n)=_:=rfl;unfold bestOf nO at eq;rw[j]at eq;cases e:yg (yb (coB Bs) Bs.length c n) (c+n)with
 |none=>
  right;rw[e]at eq;refine⟨(yb (coB Bs) Bs.length c n).map (·.1),?_,λy qs=>a.off e,?_,a.sort,λd hd=>?_,λd hd k m y h1 h2 h3 s=>?_⟩
  ·unfold bestOf nO;rw[j,e,z40];rfl
  ·obtain⟨r,hr,_⟩:=a.first;rw[hr];exact⟨_,rfl⟩
  ·obtain⟨u,i,rfl⟩:=z06.mp hd;have h1:=a.low u i;have h2:=a.top u i;have h3:=find_none e u i;exact⟨h1,by lia⟩
  ·obtain⟨u,i,rfl⟩:=z06.mp hd;obtain⟨v,o,e1,_⟩:=a.shut u i k m y h1 h2 h3 s;exact z06.mpr ⟨v,o,e1⟩
 |some p=>
  left;have hd:=a.had (x:=p.1) (l:=p.2) e;refine⟨p.1,(wB (yb (coB Bs) Bs.length c n) c n (c+n)).reverse,xM (yb (coB Bs) Bs.length c n) c n,?_,a.back n (find_some (x:=p.1) (l:=p.2) e) (by lia),hd.2,?_,?_,λm b k y h1 h2 h3 s t=>?_,?_⟩
  ·unfold bestOf nO;rw[j,e]
  ·rw[fw,j]
  ·rw[gu,wu (x:=p.1) (l:=p.2) e,wu a.zero]
   lia
  rotate_left
  ·intro C f;unfold xM at f;obtain⟨d,_,rfl⟩:=z06.mp f;have z:∀m b e x,m<Bs.length->coB Bs m b e=some x->0<=x/\x<=15000000000000:=λm b e x hm h=>(wQ w hm h).2.2.2;have h1:=zx0 a (by lia) z (d+1);have h2:=zx0 a (by lia) z d
   lia
  ·rw[gZ (by lia),show c+((b-c).toNat:Int)=b by lia,show b+((k-b).toNat:Int)=k by lia];cases eb:yg (yb (coB Bs) Bs.length c n) b with
   |none=>
    have:=zN8 (yb (coB Bs) Bs.length c n) k;rw[tQ eb];have:=h0 _ _ _ _ h1 t
    lia
   |some q=>
    obtain⟨v,o,e1,B⟩:=a.shut _ (find_some (x:=q.1) (l:=q.2) eb) k m y h3 s h1 t;rw[wu (x:=q.1) (l:=q.2) eb,wu (x:=v.2.1) (l:=v.2.2) (a.find (by rw[<-e1];exact o))];exact Int.sub_left_le_of_le_add B
theorem za9 {co:Co}{N:Nat}{a b z:Int}{p:Part}{ps:List Part}(h:Cut co N a b z (p::ps)):∃x,p.1=a/\a<p.2.1/\p.2.2<N/\co p.2.2 a p.2.1=some x/\Cut co N p.2.1 b (z-x) ps:=by
 cases h with
 |@cons _ e _ x y n _ h1 h2 h3 h=>exact⟨x,rfl,h1,h2,h3,by rw[show x+y-x=y by lia];exact h⟩
theorem bz {Bs:List (List PyData)}{n:Nat}(hn:n<Bs.length):∃ds,Bs[n]?=some ds/\Bs.getD n []=ds:=⟨Bs[n],zX3 hn,by rw[zY2,zX3 hn]<;>rfl⟩
abbrev jV :Stmt:=top 67
abbrev dF :Stmt:=top 68
abbrev zv5 :Stmt:=top 69
abbrev zN7 :Stmt:=top 70
abbrev zP1 :Stmt:=top 71
abbrev zL0 :Stmt:=top 72
abbrev aT :Stmt:=top 73
abbrev dA :Stmt:=top 74
abbrev je :Stmt:=top 75
abbrev du :Stmt:=top 76
abbrev zp9 :Stmt:=top 77
theorem vh (zs:List Int):(PyData.list (zs.map .int)).hasDict=false:=by
 rw[PyData.hasDict];exact yJ (λ_=>rfl) zs
theorem qQ (ps:List Part):(PyData.list (ps.map yo)).hasDict=false:=by
 rw[PyData.hasDict];exact yJ (λ_=>rfl) ps
theorem uv {a:Type}(l:List a):(l.map λ_=>true).all id=true:=by simp
theorem xq {a:Type}(b:Bool)(l:List a):l.map (λ_=>PyData.bool b)=(l.map λ_=>b).map .bool:=by rw[z40]<;>rfl
theorem zB3 {co:Co}{N:Nat}{a b z:Int}{ps:List Part}(h:Cut co N a b z ps):(∀p∈ps,p.2.2<N/\∃x,co p.2.2 p.1 p.2.1=some x)/\(ps.map λp=>(co p.2.2 p.1 p.2.1).getD 0).sum=z/\a+ps.length<=b:=by
 induction h with
 |nil a=>exact⟨λp c=>by simp at c,rfl,by simp⟩
 |@cons a e b x z n ps h1 h2 h3 h ih=>
  obtain⟨i1,i2,i3⟩:=ih;refine⟨λp c=>?_,?_,by rw[zY7];lia⟩
  ·rcases zX6.mp c with rfl|c
   ·exact⟨h2,x,h3⟩
   ·exact i1 p c
  ·rw[zZ2,z59,i2,h3];rfl
def bq (C:Addr)(cs:Cs):Ph:=λas Q=>∃(Bs:List (List PyData)) (c g:Int) (p:Part) (x:Int),as=[.dat (zH C cs Bs),.dat (.tuple [.int c,.int g]),.dat (yo p)]/\yf Bs/\c<=p.1/\p.1<p.2.1/\p.2.1<=g/\p.2.2<Bs.length/\coB Bs p.2.2 p.1 p.2.1=some x/\Q (.dat (.bool true))
def jb (C:Addr)(cs:Cs):Ph:=λas Q=>∃(Bs:List (List PyData)) (c g x:Int) (ps:List Part),as=[.dat (zH C cs Bs),.dat (.tuple [.int c,.int g]),.dat (.list (ps.map yo))]/\yf Bs/\Cut (coB Bs) Bs.length c g x ps/\Q (.dat (.bool true))
def zK8 (C:Addr)(cs:Cs):Ph:=λas Q=>∃(Bs:List (List PyData)) (c g x:Int) (ps:List Part),as=[.dat (zH C cs Bs),.dat (.list (ps.map yo))]/\yf Bs/\Cut (coB Bs) Bs.length c g x ps/\g<=c+14/\Q (.dat (.int x))
def bY :Ph:=λas Q=>∃zs:List Int,as=[.dat (.list (zs.map .int))]/\zs.length<=1000/\Q (.dat (.bool true))
def zs0 (C:Addr)(cs:Cs):Ph:=λas Q=>∃(Bs:List (List PyData)) (b e x:Int),as=[.dat (zH C cs Bs),.dat (.tuple [.int b,.int e]),.dat (.int x)]/\yf Bs/\Bs.length<=8/\yk b e/\(∀ds∈Bs,∀y,coO ds b e=some y->x<=y)/\Q (.dat (.bool true))
def zz1 (Bs:List (List PyData))(c g:Int)(pp:List Int):Prop:=∀i j:Nat,c+i+j<g->∀ds∈Bs,∀y,coO ds (c+i) (c+i+j+1)=some y->((pp.drop i).take (j+1)).sum<=y
def zp6 (C:Addr)(cs:Cs):Ph:=λas Q=>∃(Bs:List (List PyData)) (c g:Int) (pp:List Int),as=[.dat (zH C cs Bs),.dat (.tuple [.int c,.int g]),.dat (.list (pp.map .int))]/\yf Bs/\Bs.length<=8/\yk c g/\pp.length=(g-c).toNat/\zz1 Bs c g pp/\Q (.dat (.bool true))
def jL (C:Addr)(cs:Cs):Ph:=λas Q=>∃(Bs:List (List PyData)) (c g x:Int) (ps:List Part) (pp:List Int),as=[.dat (zH C cs Bs),.dat (.tuple [.int c,.int g]),.dat (.int x),.dat (.list (ps.map yo)),.dat (.list (pp.map .int))]/\yf Bs/\Bs.length<=8/\yk c g/\jK Bs c g x ps pp/\Q (.dat (.bool true))
def iA (C:Addr)(cs:Cs):Ph:=λas Q=>∃(Bs:List (List PyData)) (d g:Int) (ds:List Int),as=[.dat (zH C cs Bs),.dat (.int d),.dat (.int g),.dat (.list (ds.map .int))]/\yf Bs/\Bs.length<=8/\yk d g/\(∀e n y,d<e->e<=g->n<Bs.length->coB Bs n d e=some y->e∈ds)/\Q (.dat (.bool false))
def nW :Ph:=λas Q=>∃(c:Int) (r:List Int),as=[.dat (.list ((c::r).map .int)),.dat (.int c)]/\r.length<=900/\(c::r).Pairwise (·<·)/\Q (.dat (.bool true))
def jO (C:Addr)(cs:Cs):Ph:=λas Q=>∃(Bs:List (List PyData)) (c g:Int) (ds:List Int),as=[.dat (zH C cs Bs),.dat (.tuple [.int c,.int g]),.dat (.list (ds.map .int))]/\yf Bs/\Bs.length<=8/\yk c g/\iE Bs c g ds/\Q (.dat (.bool true))
def bJ (C:Addr)(cs:Cs):Ph:=λas Q=>∃(Bs:List (List PyData)) (c g:Int),as=[.dat (zH C cs Bs),.dat (.tuple [.int c,.int g]),.dat (bestOf Bs c g)]/\yf Bs/\Bs.length<=8/\yk c g/\Q (.dat (.bool true))
section
variable {P:Program}{w:World}{K:PySem.W.Frag}{mg:Str->Option Value}{base:Heap}{cs:Cs}
theorem eB {C:Addr}(F:FnD K mg "is_part" jV ["books","stay","thing"])(nb:NbT mg)(r:Cal P w K mg base "is_whole" 1 me)(s:Cal P w K mg base "can_be_had" 4 (jc C cs)):Cal P w K mg base "is_part" 5 (bq C cs):=by
 refine zN ["books","stay","thing"] F λ_ _ _ _ _ _ _ _ Q nd hr h=>?_;obtain⟨Bs,c,g,⟨b,e,n⟩,x,rfl,f,h1,h2,h3,hn,m,q⟩:=h;have h1:c<=b:=h1;have h2:b<e:=h2;have h3:e<=g:=h3;have hn:n<Bs.length:=hn;obtain⟨o,a,_⟩:=wQ f hn m;obtain⟨ds,i,p⟩:=bz hn;have a:tX (Bs.getD n []) b e=true:=a;rw[p]at a;refine xx (λα=>α=[some (.dat (zH C cs Bs)),some (.dat (.tuple [.int c,.int g])),some (.dat (.tuple [.int b,.int e,.int n]))]) ?_ ?_
 ·and_intros;rfl
 rintro α rfl;refine xV (pf (sV (sM rfl (by rfl) nb.all (EvL.d (yt ["number"] [none] (.one 0) (bj (zh 2 rfl ⟨_,rfl,z20 rfl,?_⟩)))))));refine zw (g:=PyData.int) (l:=[b,e,(n:Int)]) (λ_=>.bool true) (λz hz=>⟨_,rfl,λ_ _ _ _ _ k=>?_⟩) ?_
 ·and_intros;exact k
 rw[z04,xq];refine⟨_,rfl,_,rfl,zC rfl (zF ?_)⟩;refine xV (pf (gJ ?_));and_intros;refine vS (z02 h1) ?_;and_intros;refine vS (z02 h2) ?_;and_intros;refine zC (by rw[z02 h3];rfl) ?_;and_intros;refine vS (z02 (by rw[zX0];lia)) ?_;and_intros;refine ixk rfl rfl (zW (j:=n) (by rw[zY3,i]<;>rfl)) ?_;and_intros;refine⟨ds,b,e,rfl,f ds (z23 i),o,?_⟩;rw[a];exact q
theorem iZ {C:Addr}(F:FnD K mg "is_cut" dF ["books","stay","thing"])(nb:NbT mg)(n:Cal P w K mg base "is_part" 5 (bq C cs)):Cal P w K mg base "is_cut" 6 (jb C cs):=by
 refine zN ["books","stay","thing","day","part"] F λ_ _ _ _ _ _ _ _ Q nd hr h=>?_;obtain⟨Bs,c,g,x,ps,rfl,j,l,q⟩:=h;refine xx (λα=>α=[some (.dat (zH C cs Bs)),some (.dat (.tuple [.int c,.int g])),some (.dat (.list (ps.map yo))),none,none]) ?_ ?_
 ·and_intros;refine⟨_,qQ _,rfl,?_⟩;and_intros;rfl
 rintro α rfl;and_intros;refine yq (.one 4) (zK ?_);and_intros;refine zP (λi α=>∃(a:Option A) (day y:Int),c<=day/\Cut (coB Bs) Bs.length day g y (ps.drop i)/\α=[some (.dat (zH C cs Bs)),some (.dat (.tuple [.int c,.int g])),some (.dat (.list (ps.map yo))),some (.dat (.int day)),a]) ⟨none,c,x,z77 _,l,rfl⟩ ?_ ?_
 ·rintro i d α hd ⟨a,day,y,cd,hy,rfl⟩;rw[zY3,zZ4]at hd;obtain⟨p,b,rfl⟩:=hd;have hi:=(zX5.mp b).1;rw[z68 hi,show ps[i]=p from(zX5.mp b).2]at hy;obtain⟨z,e1,k,m,f,e⟩:=za9 hy;subst e1;have:=e.le;refine⟨_,rfl,?_⟩;and_intros;refine⟨Bs,c,g,p,z,rfl,j,cd,k,this,m,f,?_⟩;unfold yo;and_intros;refine zC (by simp) ?_;and_intros;exact⟨_,_,_,by lia,e,rfl⟩
 ·rintro α ⟨a,day,y,cd,hy,rfl⟩;rw[zX0,yb0]at hy;cases hy;and_intros;simpa using q
theorem zH3 {C:Addr}(F:FnD K mg "cut_coins" zv5 ["books","cut"])(nb:NbT mg)(s:Cal P w K mg base "cost" 6 (dD C cs)):Cal P w K mg base "cut_coins" 7 (zK8 C cs):=by
 refine zN ["books","cut"] F λ_ _ _ _ _ _ _ _ Q nd hr h=>?_;obtain⟨Bs,c,g,x,ps,rfl,i,r,hg,q⟩:=h;obtain⟨pin,f,pl⟩:=zB3 r;refine xv (zn2 15000000000000 rfl (by rfl) nb.sum (EvL.d (yt ["part","books"] [none,some 0] (.one 0) (zK ?_))));and_intros;refine⟨by rw[zX0];lia,?_⟩;refine zw (λp=>.int ((coB Bs p.2.2 p.1 p.2.1).getD 0)) (λp e=>⟨_,rfl,λ_ _ _ _ _ k=>?_⟩) ?_
 ·obtain⟨hn,y,hy⟩:=pin p e;obtain⟨m,l,o,_⟩:=wQ i hn hy;obtain⟨ds,a,b⟩:=bz hn;rw[hy,Option.getD_some,o,b]at k;rw[b]at l;unfold yo;and_intros;refine ixk rfl rfl (zW (j:=p.2.2) (by rw[zY3,a]<;>rfl)) ?_;and_intros;exact⟨ds,p.1,p.2.1,rfl,i ds (z23 a),m,l,k⟩
 rw[z04,show ps.map (λp=>PyData.int ((coB Bs p.2.2 p.1 p.2.1).getD 0))=(ps.map λp=>(coB Bs p.2.2 p.1 p.2.1).getD 0).map .int by rw[z40]<;>rfl];refine⟨_,rfl,λn hn=>?_,by rw[zX0];lia,?_⟩
 ·obtain⟨p,e,rfl⟩:=z06.mp hn;obtain⟨hn,y,hy⟩:=pin p e;rw[hy,Option.getD_some];have:=(wQ i hn hy).2.2.2
  lia
 ·rw[f];exact q
theorem zk7 (F:FnD K mg "is_list_of_wholes" zN7 ["thing"])(nb:NbT mg)(b:Cal P w K mg base "is_whole" 1 me):Cal P w K mg base "is_list_of_wholes" 2 bY:=by
 refine zN ["thing"] F λ_ _ _ _ _ _ _ _ Q nd hr h=>?_;obtain⟨zs,rfl,a,q⟩:=h;and_intros;refine⟨_,vh _,rfl,?_⟩;and_intros;refine sM rfl (by rfl) nb.all (EvL.d (yt ["number"] [none] (.one 0) (zK ?_)));and_intros;refine⟨by rw[zX0];exact a,?_⟩;refine zw (λ_=>.bool true) (λz hz=>⟨_,rfl,λ_ _ _ _ _ k=>?_⟩) ?_
 ·and_intros;exact k
 rw[z04,xq];and_intros;rw[uv];exact q
theorem zo1 {C:Addr}(F:FnD K mg "costs_no_less" zP1 ["books","stay","coins"])(nb:NbT mg)(f:Cal P w K mg base "cost_or_none" 6 (ah C cs)):Cal P w K mg base "costs_no_less" 7 (zs0 C cs):=by
 refine zN ["books","stay","coins","told"] F λ_ _ _ _ _ _ _ _ Q nd hr h=>?_;obtain⟨Bs,b,e,x,rfl,c,bl,a,nl,q⟩:=h;refine uE 3 ["book","stay"] [none,some 1] (.one 0) (zK ?_);and_intros;refine⟨by rw[zX0];lia,?_⟩;refine zw (λds=>oD (coO ds b e)) (λds hd=>⟨_,rfl,λ_ _ _ _ _ k=>?_⟩) ?_
 ·and_intros;exact⟨ds,b,e,rfl,c ds hd,a,k⟩
 rw[z04];refine vK 3 rfl ?_;refine xv (sM rfl (by rfl) nb.all (EvL.d (yt ["other","coins"] [none,some 2] (.one 0) (zK ?_))));and_intros;refine⟨by rw[zX0];lia,?_⟩;refine zw (λ_=>.bool true) (λds hd=>⟨_,rfl,λ_ _ _ _ _ k=>?_⟩) ?_
 ·cases hx:coO ds b e with
  |none=>
   and_intros;exact k
  |some y=>
   and_intros;rw[z02 (nl ds hd y hx)];exact k
 rw[z04,xq];and_intros;rw[uv];exact q
theorem zc8 {pp:List Int}{i:Nat}(h:i<pp.length):(pp.take (i+1)).sum=(pp.take i).sum+pp.getD i 0:=by
 rw[z42,zX3 h,List.sum_append,zY2,zX3 h];simp
theorem zh8 {C:Addr}(F:FnD K mg "no_part_costs_less" zL0 ["books","stay","paper"])(nb:NbT mg)(p:Cal P w K mg base "costs_no_less" 7 (zs0 C cs)):Cal P w K mg base "no_part_costs_less" 8 (zp6 C cs):=by
 refine zN ["books","stay","paper","begin","coins","night"] F λ_ _ _ _ _ _ _ _ Q nd hr h=>?_;obtain⟨Bs,c,g,pp,rfl,n,bl,⟨r,s,g1,g2⟩,pl,np,q⟩:=h;refine yq (.one 3) (xY (by rfl) nb.range ?_);and_intros;refine⟨⟨by lia,by lia,by lia,by lia⟩,?_⟩;refine zP (λi α=>∃l k a:Option A,α=[some (.dat (zH C cs Bs)),some (.dat (.tuple [.int c,.int g])),some (.dat (.list (pp.map .int))),l,k,a]) ⟨none,none,none,rfl⟩ ?_ ?_
 ·rintro i d α hd ⟨l,k,a,rfl⟩;rw[zY3,zZ4]at hd;obtain⟨u,f,rfl⟩:=hd;have hi:=(zX5.mp f).1;rw[zd]at hi;rw[zU hi]at f;cases f;refine⟨_,rfl,?_⟩;and_intros;refine yq (.one 5) (xY (by rfl) nb.range ?_);and_intros;refine⟨⟨by lia,by lia,by lia,by lia⟩,?_⟩;refine zP (λj α=>∃a:Option A,α=[some (.dat (zH C cs Bs)),some (.dat (.tuple [.int c,.int g])),some (.dat (.list (pp.map .int))),some (.dat (.int (c+(i:Int)))),some (.dat (.int ((pp.drop i).take j).sum)),a]) ⟨a,by simp⟩ ?_ ?_
  ·rintro j d α hd ⟨a,rfl⟩;rw[zY3,zZ4]at hd;obtain⟨v,e,rfl⟩:=hd;have m:=(zX5.mp e).1;rw[zd]at m;rw[zU m]at e;cases e;have b:i+j<pp.length:=by lia
   refine⟨_,rfl,?_⟩;and_intros;refine ixk rfl rfl (i:=c+(i:Int)+(j:Int)-c) (by rw[show c+(i:Int)+(j:Int)-c=((i+j:Nat):Int) by lia];exact zW (j:=i+j) (by rw[zY3,zX3 b]<;>rfl)) ?_;and_intros;have o:((pp.drop i).take j).sum+pp[i+j]=((pp.drop i).take (j+1)).sum:=by
    rw[zc8 (by rw[ya9];lia),zY2,yg7,zX3 b];rfl
   rw[o];refine⟨Bs,c+i,c+i+j+1,_,rfl,n,bl,⟨by lia,by lia,by lia,by lia⟩,np i j (by lia),?_⟩;and_intros;exact⟨_,rfl⟩
  ·rintro α ⟨a,rfl⟩;and_intros;exact⟨_,_,_,rfl⟩
 ·rintro α ⟨l,k,a,rfl⟩;and_intros;exact q
theorem gR {C:Addr}(F:FnD K mg "is_had" aT ["books","stay","coins","cut","paper"])(nb:NbT mg)(o:Cal P w K mg base "is_whole" 1 me)(f:Cal P w K mg base "is_cut" 6 (jb C cs))(k:Cal P w K mg base "cut_coins" 7 (zK8 C cs))(p:Cal P w K mg base "is_list_of_wholes" 2 bY)(l:Cal P w K mg base "no_part_costs_less" 8 (zp6 C cs)):Cal P w K mg base "is_had" 9 (jL C cs):=by
 refine zN ["books","stay","coins","cut","paper"] F λ_ _ _ _ _ _ _ _ Q nd hr h=>?_;obtain⟨Bs,c,g,x,ps,pp,rfl,b,bl,d,a,q⟩:=h;obtain⟨m,r,g1,g2⟩:=id d;have pl:=a.plen;and_intros;refine⟨Bs,c,g,x,ps,rfl,b,a.cut,?_⟩;and_intros;refine⟨Bs,c,g,x,ps,rfl,b,a.cut,g1,?_⟩;and_intros;refine zC (by show(!PyData.eqv (.int x) (.int x))=false;rw[SeqAt.eqv_refl _ rfl];rfl) ?_;and_intros;refine⟨by lia,?_⟩;and_intros;rw[zX0];refine nP (by simp;lia) ?_;and_intros;refine zo3 rfl (by rfl) nb.sum ?_;and_intros;refine⟨λn hn=>by have:=a.pbd n hn;lia,by lia,?_⟩;and_intros;refine zC (by simp[a.psum]) ?_;and_intros;refine⟨Bs,c,g,pp,rfl,b,bl,d,pl,λi j e ds hd y hy=>?_,q⟩;obtain⟨n,hn,rfl⟩:=yf7.mp hd;have:=a.paper n (c+i) (c+i+j+1) y hn (by lia) (by lia) (by lia) (by rw[pW (zX3 hn) ⟨by lia,by lia,by lia,by lia⟩];exact hy);rw[show(c+i-c).toNat=i by lia,show(c+i+j+1-(c+i)).toNat=j+1 by lia]at this;exact this
theorem zi7 (ds:List Int):(ds.map PyData.int).all rP=true:=by
 rw[List.all_map,z67];intro z _;rfl
theorem zw6 {z:Int}:∀{ds:List Int},inD (.int z) (ds.map .int)=decide (z∈ds)
 |[]=>rfl
 |d::ds=>by
  have a:=zw6 (z:=z) (ds:=ds);rw[zZ2];unfold inD at a ⊢;rw[z87,a];by_cases h:z=d
  ·subst h;simp[scV,eqV]
  ·simp[scV,eqV,h,z09 h]
theorem gk {C:Addr}(F:FnD K mg "leads_out" dA ["books","day","go","days"])(nb:NbT mg)(o:Cal P w K mg base "can_be_had" 4 (jc C cs)):Cal P w K mg base "leads_out" 5 (iA C cs):=by
 refine zN ["books","day","go","days","other"] F λ_ _ _ _ _ _ _ _ Q nd hr h=>?_;obtain⟨Bs,d,g,ds,rfl,j,bl,⟨p,r,g1,g2⟩,l,q⟩:=h;refine yq (.one 4) (xY (by rfl) nb.range ?_);and_intros;refine⟨⟨by lia,by lia,by lia,by lia⟩,?_⟩;refine zP (λi α=>∃e:Option A,α=[some (.dat (zH C cs Bs)),some (.dat (.int d)),some (.dat (.int g)),some (.dat (.list (ds.map .int))),e]) ⟨none,rfl⟩ ?_ ?_
 ·rintro i x α f ⟨e,rfl⟩;rw[zY3,zZ4]at f;obtain⟨u,c,rfl⟩:=f;have hi:=(zX5.mp c).1;rw[zd]at hi;rw[zU hi]at c;cases c;have a:yk d (d+1+(i:Int)):=⟨by lia,by lia,by lia,by lia⟩;refine⟨_,rfl,?_⟩;and_intros;refine ink rfl (zi7 _) ?_;rw[zw6];refine mE (λh=>?_) (λh=>?_)
  ·have h:¬d+1+(i:Int)∈ds:=by simpa using h
   refine oi (sV (cy rfl (by rfl) nb.any (EvL.d (yt ["book","day","other"] [none,some 1,some 4] (.one 0) (zK ?_)))));and_intros;refine⟨by rw[zX0];lia,?_⟩;refine zw (λ_=>.bool false) (λb hb=>⟨_,rfl,λ_ _ _ _ _ k=>?_⟩) ?_
   ·and_intros;refine⟨b,d,d+1+(i:Int),rfl,j b hb,a,?_⟩;obtain⟨n,hn,rfl⟩:=yf7.mp hb;rw[show tX Bs[n] d (d+1+(i:Int))=false from Bool.eq_false_iff.mpr λm=>h (l _ n (coD Bs[n] d (d+1+(i:Int))) (by lia) (by lia) hn (by rw[pW (zX3 hn) a,coO,if_pos m]))];exact k
   rw[z04,xq];and_intros;refine zC (by rw[List.any_map,List.any_eq_false];intro _ _ z;cases z) ?_;and_intros;exact⟨_,rfl⟩
  ·and_intros;exact⟨_,rfl⟩
 ·rintro α ⟨e,rfl⟩;and_intros;exact q
def adj :List Int->List (Int×Int)
 |a::b::r=>(a,b)::adj (b::r)
 |_=>[]
theorem zl2 :∀ds:List Int,fC (L2.cutD (ds.map PyData.int) none (some (-1))) (L2.cutD (ds.map PyData.int) (some 1) none)=(adj ds).map λp=>.tuple [.int p.1,.int p.2]:=by
 have key:∀ds:List Int,List.zipWith (λd e=>PyData.tuple [d,e]) ((ds.map PyData.int).take ((ds.map PyData.int).length-1)) ((ds.map PyData.int).drop 1)=(adj ds).map λp=>.tuple [.int p.1,.int p.2]:=by
  intro ds
  induction ds with
  |nil=>rfl
  |cons a r c=>
   cases r with
   |nil=>rfl
   |cons b r=>
    have e:(List.map PyData.int (a::b::r)).length-1=(List.map PyData.int (b::r)).length-1+1:=by simp
    rw[e];show PyData.tuple [.int a,.int b]::List.zipWith _ (List.take _ (List.map PyData.int (b::r))) (List.drop 1 (List.map PyData.int (b::r)))=_;rw[c];rfl
 intro ds;rw[rC,qp _ (by decide)];exact key ds
theorem df :∀{ds:List Int},ds.Pairwise (·<·)->(adj ds).length<=ds.length/\∀p∈adj ds,p.1<p.2
 |[],_=>⟨zX7 _,λp c=>by cases c⟩
 |[_],_=>⟨zY9 _,λp c=>by cases c⟩
 |a::b::r,h=>by
  obtain⟨h1,h2⟩:=yd2.mp h;obtain⟨i1,i2⟩:=df h2;refine⟨Nat.succ_le_succ i1,λp c=>?_⟩;rcases zX6.mp c with rfl|c
  ·exact h1 b zX9
  ·exact i2 p c
theorem lF (F:FnD K mg "is_rising_from" je ["days","first"])(nb:NbT mg):Cal P w K mg base "is_rising_from" 1 nW:=by
 refine zN ["days","first"] F λ_ _ f _ _ _ _ _ Q nd hr h=>?_;obtain⟨c,r,rfl,dl,b,q⟩:=h;obtain⟨al,e⟩:=df b;and_intros;refine eqk (shaped_ints _).1 rfl (vh _) rfl ?_;and_intros;refine ixk rfl rfl (zW (j:=0) rfl) ?_;and_intros;refine vS (z02 rfl) ?_;refine lq (sM rfl (by rfl) nb.all (EvL.d (yt ["lower","higher"] [none,none] (.many [0,1]) (aE (by rfl) nb.zip ?_))));and_intros;rw[zl2];refine⟨by rw[zX0];rw[zY7]at al;lia,?_⟩;refine zw (λ_=>.bool true) (λp a=>⟨_,rfl,λ_ _ _ _ _ k=>?_⟩) ?_
 ·and_intros;rw[z02 (e p a)];exact k
 rw[z04,xq];and_intros;rw[uv];exact q
theorem iN {C:Addr}(F:FnD K mg "is_off" du ["books","stay","days"])(nb:NbT mg)(v:Cal P w K mg base "is_list_of_wholes" 2 bY)(CR:Cal P w K mg base "is_rising_from" 1 nW)(p:Cal P w K mg base "leads_out" 5 (iA C cs)):Cal P w K mg base "is_off" 6 (jO C cs):=by
 refine zN ["books","stay","days"] F λ_ _ _ _ _ _ _ _ Q nd hr h=>?_;obtain⟨Bs,c,g,ds,rfl,n,bl,o,b,q⟩:=h;obtain⟨u,y,g1,g2⟩:=id o;obtain⟨r,e⟩:=b.first;have m:=b.sort;have dl:ds.length<=14:=by
  have key:∀(l:List Int) (a:Int),l.Pairwise (·<·)->(∀d∈l,a<=d/\d<g)->(l.length:Int)<=max 0 (g-a):=by
   intro l
   induction l with
   |nil=>intro a _ _;simp;lia
   |cons x l s=>
    intro a f hb;have h1:=hb x zX9;have:=s (x+1) (yd2.mp f).2 λd hd=>⟨(yd2.mp f).1 d hd,(hb d (zX8 _ hd)).2⟩;rw[zY7]
    lia
  have:=key ds c m b.rng
  lia
 obtain⟨l,j⟩:∃l,ds=ds.dropLast++[l]:=⟨ds.getLast (by rw[e];simp),(List.dropLast_concat_getLast _).symm⟩;have t:=(b.rng l (by rw[j];simp)).2;and_intros;refine⟨by lia,?_⟩;and_intros;refine⟨c,r,by rw[e],by rw[e,zY7]at dl;lia,by rw[<-e];exact m,?_⟩;and_intros;refine ixk rfl rfl (i:=-1) (d:=.int l) (by rw[j,z22];exact uq _ _) ?_;and_intros;refine zC (zZ7 (by lia)) (zF ?_);refine xv (zb8 (cy rfl (by rfl) nb.any (EvL.d (yt ["day","books","stay","days"] [none,some 0,some 1,some 2] (.one 0) (zK ?_)))));and_intros;refine⟨by rw[zX0];lia,?_⟩;refine zw (λ_=>.bool false) (λd hd=>⟨_,rfl,λ_ _ _ _ _ k=>?_⟩) ?_
 ·and_intros;have:=b.rng d hd;exact⟨Bs,d,g,ds,rfl,n,bl,⟨by lia,by lia,by lia,by lia⟩,b.shut d hd,k⟩
 rw[z04,xq];and_intros;rw[show(ds.map λ_=>false).any id=false by rw[List.any_map,List.any_eq_false];intro _ _ z;cases z];exact q
theorem aj {C:Addr}(F:FnD K mg "lets_by" zp9 ["books","stay","thing"])(nb:NbT mg)(e:Cal P w K mg base "is_had" 9 (jL C cs))(d:Cal P w K mg base "is_off" 6 (jO C cs)):Cal P w K mg base "lets_by" 10 (bJ C cs):=by
 refine zN ["books","stay","thing"] F λ_ _ _ _ _ _ _ _ Q nd hr h=>?_;obtain⟨Bs,c,g,rfl,b,bl,a,q⟩:=h;rcases rH b a with⟨x,ps,pp,h⟩|⟨ds,h⟩
 ·rw[h.eq];have h1:=qQ ps;have h2:=vh pp;rw[PyData.hasDict]at h1 h2;refine xx (λα=>α=[some (.dat (zH C cs Bs)),some (.dat (.tuple [.int c,.int g])),some (.dat (.tuple [.str "had",.int x,.list (ps.map yo),.list (pp.map .int)]))]) ?_ ?_
  ·and_intros;refine⟨_,by simp[PyData.hasDict,PyData.hasDictAll,h1,h2],rfl,?_⟩;and_intros;rfl
  rintro α rfl;and_intros;exact⟨Bs,c,g,x,ps,pp,rfl,b,bl,a,h,q⟩
 ·rw[h.eq];have h2:=vh ds;rw[PyData.hasDict]at h2;refine xx (λα=>α=[some (.dat (zH C cs Bs)),some (.dat (.tuple [.int c,.int g])),some (.dat (.tuple [.str "off",.list (ds.map .int)]))]) ?_ ?_
  ·and_intros;refine⟨_,by simp[PyData.hasDict,PyData.hasDictAll,h2],rfl,?_⟩;and_intros;rfl
  rintro α rfl;and_intros;exact⟨Bs,c,g,ds,rfl,b,bl,a,h,q⟩
end
abbrev ib :Stmt:=top 87
abbrev zr3 :Stmt:=top 86
def cV :Ph:=λas Q=>∃bs a:Int,as=[.tape,.dat (.int bs),.dat (.int a)]/\Bd bs a/\∀c g:Int,yk c g->Q (.dat (.tuple [.int c,.int g]))
def kO (C:Addr)(cs:Cs):Ph:=λas Q=>∃bs a:Int,as=[.tape,.dat (.int bs),.dat (.int a)]/\Bd bs a/\∀Bs,yf Bs->1<=Bs.length->Bs.length<=4->(∀ds∈Bs,ds.length<=10)->Q (.own (Bs.map (yh C cs)))
section
variable {P:Program}{w:World}{K:PySem.W.Frag}{mg:Str->Option Value}{base:Heap}{cs:Cs}
theorem eA (F:FnD K mg "_law_stay" zr3 ["_law_tape_here","_law_base","_law_days"])(b:Cal P w K mg base "_law_draw" 1 xC):Cal P w K mg base "_law_stay" 2 cV:=by
 refine zN ["_law_tape_here","_law_base","_law_days","_law_many","_law_come"] F λ_ _ _ _ _ _ _ _ Q nd hr h=>?_;obtain⟨bs,e,rfl,⟨c,g,d,f⟩,q⟩:=h;have a:(1000001:Int)<big:=by decide
 refine yj 3 nd (rz (yr (vA b hr (by rfl) (pT 0 rfl (zm (zh 2 rfl (zx (⟨_,rfl,by lia,by lia,λv1 h1 g1=>⟨_,_,rfl,rfl,?_⟩⟩))))))));refine yj 4 nd (rz (zh 1 rfl (vA b hr (by rfl) (pT 0 rfl (zm (rz (bw (zh 2 rfl (zh 3 rfl (⟨_,_,rfl,rfl,yr (⟨_,_,rfl,rfl,zx (⟨_,rfl,by lia,by lia,λv2 h2 g2=>⟨_,_,rfl,rfl,?_⟩⟩)⟩)⟩))))))))));and_intros;exact q _ _ ⟨by lia,by lia,by lia,by lia⟩
theorem ff {C:Addr}(F:FnD K mg "_law_books" ib ["_law_tape_here","_law_base","_law_days"])(nb:NbT mg)(k:Cal P w K mg base "_law_draw" 1 xC)(CR:Cal P w K mg base "_law_rules" 5 oT)(j:vH P w K mg base "Book" 9 [] (uJ C cs)):Cal P w K mg base "_law_books" 11 (kO C cs):=by
 refine zN ["_law_tape_here","_law_base","_law_days","_law_found","_law_k"] F λ_ _ _ _ _ _ _ _ Q nd hr h=>?_;obtain⟨bs,f,rfl,bd,q⟩:=h;refine xl 3 nd ?_;and_intros;refine yq (.one 4) (xW (by rfl) nb.range ?_);and_intros;rename_i v h0 h1;refine⟨by lia,by lia,?_⟩;refine zP (λi α=>∃(e:Option A) (Bs:List (List PyData)),yf Bs/\Bs.length=i/\(∀ds∈Bs,ds.length<=10)/\α=[some .tape,some (.dat (.int bs)),some (.dat (.int f)),some (.own (Bs.map (yh C cs))),e]) ⟨none,[],λ_ h=>by simp at h,rfl,λ_ h=>by simp at h,rfl⟩ ?_ ?_
 ·rintro i d α hd ⟨e,Bs,c,bl,dl,rfl⟩;have hi:=(zX5.mp hd).1;rw[zX0,zd]at hi;refine⟨_,rfl,?_⟩;and_intros;refine⟨bs,f,rfl,bd,λds g l1 ld=>?_⟩;and_intros;refine jg (λd=>∃b:Int,d=.int b) rfl (by assumption) (by assumption) ⟨⟨_,rfl⟩,⟨_,rfl⟩,trivial⟩ ?_;rintro _ ⟨b,rfl⟩;and_intros;have rc:zt (L2.cutD ds none (some b)):=λd hd=>g d (zg1 hd);have lc:=zY1 (zl3 (ds:=ds) (lo:=none) (hi:=some b)) ld;refine⟨_,.inl rfl,rc.rules,by lia,?_⟩;and_intros;refine⟨by rw[zX0];lia,?_⟩;and_intros;refine⟨_,Bs++[L2.cutD ds none (some b)],λx a=>?_,by rw[zZ9,bl]<;>rfl,λx a=>?_,by rw[z22]<;>rfl⟩
  ·rcases z31.mp a with a|a
   ·exact c x a
   ·rw[zY0.mp a];exact rc
  ·rcases z31.mp a with a|a
   ·exact dl x a
   ·rw[zY0.mp a];exact lc
 ·rintro α ⟨e,Bs,c,bl,dl,rfl⟩;rw[zX0,zd]at bl;exact xo 3 rfl (q Bs c (by lia) (by lia) dl)
end
theorem take_snoc {β:Type}{l:List β}{i:Nat}{d:β}(h:l[i]?=some d):l.take (i+1)=l.take i++[d]:=by rw[z42,h];rfl
abbrev zp2 :Stmt:=top 39
def dC (C:Addr)(cs:Cs):Ph:=λas Q=>∃ds a,as=[.dat (yh C cs ds),.dat (yh C cs a)]/\zt ds/\zt a/\ds.length+a.length<=24/\Q (.dat (yh C cs (ds++a)))
section
variable {P:Program}{w:World}{K:PySem.W.Frag}{mg:Str->Option Value}{base:Heap}{cs:Cs}
theorem zc3 {C:Addr}(F:FnD K mg "laid" zp2 ["elder","newer"])(e:vH P w K mg base "Book" 9 [] (uJ C cs))(d:xh P w K mg base C "rules" 3 (tN C cs)):Cal P w K mg base "laid" 11 (dC C cs):=by
 refine zN ["elder","newer"] F λ_ _ _ _ _ _ _ _ Q nd hr h=>?_;obtain⟨ds,a,rfl,b,re,c,q⟩:=h;and_intros;refine⟨b.rules,by lia,?_⟩;and_intros;refine⟨re.rules,by lia,ds,a,rfl,rfl,by lia,?_⟩;and_intros;exact⟨ds++a,.inl rfl,(b.app re).rules,by rw[zZ9];exact c,q⟩
end
abbrev bB :Stmt:=top 42
abbrev cI :Stmt:=top 43
abbrev zp7 :Stmt:=top 44
abbrev zq0 :Stmt:=top 45
abbrev zL3 :Stmt:=top 46
abbrev zJ8 :Stmt:=top 47
inductive WOk :Str->PyData->Prop
 |non {s:Str}:(s="price"\/s="deal")->WOk s .none
 |bl {s:Str} (b:Bool):(s="come"\/s="go")->WOk s (.bool b)
 |int {s:Str} (n:Nat):s≠"come"->s≠"go"->s≠"deal"->n<=1000000000000->WOk s (.int n)
 |deal (a b:Nat):a<=14->b<=14->WOk "deal" (.tuple [.int a,.int b])
def zS :PyData->List Str
 |.none=>["none"]
 |.bool b=>[if b then "yes" else "no"]
 |.int n=>[fig n.toNat]
 |.tuple [.int a,.int b]=>[fig a.toNat,fig b.toNat]
 |_=>[]
def sX (v:PyData):Str:=Txt.join " " (zS v)
def ui (s:Str)(i j:Nat)(v:PyData):Str:=Txt.join " " (s::fig i::fig j::zS v)
theorem zc9 {ts:List Str}(h:∀t∈ts,t.length<=100)(a:ts.length<=20):JoinOk " " ts=true:=by
 unfold JoinOk Builtin.Str.tooLong;rw[StrLaws.joinTotal,ya1,z38];have e:(" ":Str).length=1:=by decide +kernel
 have d:(ts.map (·.length)).sum<=ts.length*100:=by
  clear a
  induction ts with
  |nil=>exact zX7 _
  |cons x r b=>
   have h1:=h x (zX9 ..);have h2:=b λt c=>h t (zX8 _ c);simp only[zZ2,z59,zY7]
   lia
 have:20*100+20*1<=sizeLine:=by decide
 rw[e]
 lia
theorem yP {n:Nat}(h:n<=1000000000000):(fig n).length<=13:=ia (by decide) (by lia)
theorem vf {n:Nat}(h:n<=1000000000000):((n:Int)).natAbs.log2<1920:=by
 have e:((n:Int)).natAbs=n:=by lia
 rw[e];by_cases z:n=0
 ·subst z;decide
 ·exact(Nat.log2_lt z).mpr (zZ5 h (zX4 (show 1000000000000<2 ^ 40 by decide) (Nat.pow_le_pow_right (by decide) (by decide))))
theorem qz {s:Str}(h:s∈words):s.length<=100:=by
 simp only[words,zX6,zZ1,z08]at h;rcases h with rfl|rfl|rfl|rfl|rfl|rfl|rfl<;>decide +kernel
theorem vE {s:Str}{v:PyData}(h:WOk s v):(∀t∈zS v,t.length<=50)/\(zS v).length<=2:=by
 cases h with
 |non _=>exact⟨λt c=>by rw[zY0.mp c];decide +kernel,by decide⟩
 |bl b _=>exact⟨λt c=>by rw[zY0.mp c];cases b<;>decide +kernel,by cases b<;>decide⟩
 |int n _ _ _ hn=>exact⟨λt c=>by rw[zY0.mp c];exact zY1 (yP (by lia)) (by decide),by show 1<=2;decide⟩
 |deal a b ha hb=>
  refine⟨λt c=>?_,by show 2<=2;decide⟩;rcases zX6.mp c with rfl|c
  ·exact zY1 (yP (by lia)) (by decide)
  ·rw[zY0.mp c];exact zY1 (yP (by lia)) (by decide)
def kL :Ph:=λas Q=>∃s v,as=[.dat v]/\WOk s v/\Q (.dat (.str (sX v)))
def ig :Ph:=λas Q=>∃(s:Str) (i j:Nat) (v:PyData),as=[.dat (.tuple [.str s,.int i,.int j,v])]/\s∈words/\i<=1000000/\j<=1000000/\WOk s v/\Q (.dat (.str (ui s i j v)))
section
variable {P:Program}{w:World}{K:PySem.W.Frag}{mg:Str->Option Value}{base:Heap}
theorem iW (F:FnD K mg "worth_text" bB ["worth"])(nb:NbT mg):Cal P w K mg base "worth_text" 1 kL:=by
 refine zN ["worth"] F λ_ _ _ _ _ _ _ _ Q nd hr h=>?_;obtain⟨x,v,rfl,c,q⟩:=h;cases c with
 |non _=>and_intros;exact q
 |bl b _=>
  and_intros;cases b with
  |true=>refine vn rfl ?_;and_intros;exact q
  |false=>refine zC rfl ?_;and_intros;exact q
 |int n _ _ _ hn=>
  and_intros;exact⟨vf hn,q⟩
 |deal a b ha hb=>
  and_intros;refine EvL.d (yt ["number"] [none] (.one 0) (bj (zh 0 rfl ⟨_,rfl,z20 rfl,?_⟩)));refine zw (l:=[a,b]) (g:=λn:Nat=>.int n) (λn=>.str (fig n)) (λn hn=>⟨_,rfl,λC s2 f fp Q h=>?_⟩) ?_
  ·and_intros;refine⟨vf ?_,h⟩;simp only[zX6,zZ1,z08]at hn
   lia
  ·exact⟨[fig a,fig b],rfl,zc9 (λt e=>zY1 ((vE (.deal a b ha hb)).1 t e) (by decide)) (by show 2<=20;decide),q⟩
theorem fk {s:Str}{v:PyData}(h:WOk s v)(a b c:Str):Txt.join " " [a,b,c,sX v]=Txt.join " " (a::b::c::zS v):=by
 unfold sX;show Builtin.Str.glued _ _=Builtin.Str.glued _ _;cases h<;>first
  |rfl
  |(rw[z46,z46];rfl)
theorem iR {s:Str}{v:PyData}(h:WOk s v):(sX v).length<=100:=by
 have e:(" ":Str).length=1:=by decide +kernel
 unfold sX;rw[show Txt.join " " (zS v)=Str.join " " (zS v)from z46 _ _];have h1:=z99 " " (zS v);obtain⟨h2,h3⟩:=vE h;rw[e]at h1;have:((zS v).map (·.length)).sum<=50*(zS v).length:=by
  clear h1 h3 h;generalize zS v=l at h2
  induction l with
  |nil=>exact zX7 _
  |cons x r c=>
   have g1:=h2 x (zX9 ..);have g2:=c λt d=>h2 t (zX8 _ d);simp only[zZ2,z59,zY7]
   lia
 have:(zS v).length<=1\/(zS v).length=2:=by lia
 cases h with
 |non _=>decide +kernel
 |bl b _=>cases b<;>decide +kernel
 |int n _ _ _ hn=>exact zY1 (yP (by lia)) (by decide)
 |deal a b ha hb=>
  have f1:(fig a).length<=13:=yP (by lia);have f2:(fig b).length<=13:=yP (by lia);have:(Str.join " " [fig a,fig b]).length<=13+13+2:=by
   have h1:=z99 " " [fig a,fig b];simp only[zZ2,z59,zY7,ya5,List.sum_nil,z95]at h1;rw[e]at h1
   lia
  exact zY1 this (by decide)
theorem gA (F:FnD K mg "rule_text" cI ["rule"])(nb:NbT mg)(c:Cal P w K mg base "worth_text" 1 kL):Cal P w K mg base "rule_text" 2 ig:=by
 refine zN ["rule"] F λ_ _ _ _ _ _ _ _ Q nd hr h=>?_;obtain⟨x,i,j,v,rfl,d,hi,e,a,q⟩:=h;and_intros;refine⟨vf (by lia),?_⟩;and_intros;refine⟨vf (by lia),?_⟩;and_intros;refine⟨x,v,rfl,a,?_⟩;and_intros;refine⟨[x,fig i,fig j,sX v],rfl,zc9 (λt b=>?_) (by show 4<=20;decide),?_⟩
 ·simp only[zX6,zZ1,z08]at b;rcases b with rfl|rfl|rfl|rfl
  ·exact qz d
  ·exact zY1 (yP (by lia)) (by decide)
  ·exact zY1 (yP (by lia)) (by decide)
  ·exact iR a
 ·show Q (.dat (.str (Txt.join " " [x,fig i,fig j,sX v])));rw[fk a];exact q
end
theorem hd0 (n:Nat)(h:0<n):∃c r,Nat.toDigits 10 n=c::r/\c.toNat≠48:=by
 induction n using Nat.strongRecOn with
 |_ m a=>
  by_cases hm:m<10
  ·rw[Nat.toDigits_of_lt_base hm];have:∀d,d<10->0<d->(Nat.digitChar d).toNat≠48:=by decide
   exact⟨_,_,rfl,this m hm h⟩
  ·have hm:m % 10<10:=Nat.mod_lt m (by decide);have t:Nat.toDigits 10 (m / 10)++Nat.toDigits 10 (m % 10)=Nat.toDigits 10 (10*(m / 10)+m % 10):=Nat.toDigits_append_toDigits (by decide) (by lia) hm;rw[z84]at t;obtain⟨c,r,e,b⟩:=a (m / 10) (by lia) (by lia);rw[<-t,e];exact⟨c,_,rfl,b⟩
theorem bD :fig 0=("0":Str):=by decide +kernel
theorem mi {n:Nat}(h:0<n):∃c r,(fig n).cps.toList=c::r/\c≠48:=by
 obtain⟨c,r,e,a⟩:=hd0 n h;exact⟨c.toNat,r.map Char.toNat,by rw[ur,e];rfl,a⟩
theorem zg4 {n:Nat}(h:0<n):fig n≠("0":Str):=by
 intro e;obtain⟨c,r,e1,a⟩:=mi h;rw[e]at e1;have:("0":Str).cps.toList=[48]:=by decide +kernel
 rw[this]at e1;exact a (yb8 e1).1.symm
theorem zm3 (n:Nat):(fig n).cps.all (·<128)=true:=by
 rw[yg8];intro c a;have:=wz n c (ya8.mpr a);exact z02 (by lia)
theorem zC1 {c:Nat}(h:48<=c/\c<=57):(!(Builtin.Str.occurrences ("0123456789":Str) ⟨#[c]⟩ 0 ("0123456789":Str).length 1).isEmpty)=true:=by
 obtain⟨h1,h2⟩:=h;have:c=48\/c=49\/c=50\/c=51\/c=52\/c=53\/c=54\/c=55\/c=56\/c=57:=by lia
 rcases this with rfl|rfl|rfl|rfl|rfl|rfl|rfl|rfl|rfl|rfl<;>decide +kernel
theorem pL (n:Nat):fig n≠("":Str):=by
 intro e;have h:=aN n;rw[e]at h;exact h (by decide +kernel)
def eW :Ph:=λas Q=>∃n:Nat,as=[.dat (.str (fig n))]/\n<=1000000000000/\Q (.dat (.bool true))
def mK :Ph:=λas Q=>∃n:Nat,as=[.dat (.str (fig n))]/\n<=1000000000000/\Q (.dat (.int n))
section
variable {P:Program}{w:World}{K:PySem.W.Frag}{mg:Str->Option Value}{base:Heap}
theorem cx (F:FnD K mg "is_number_text" zp7 ["word"])(nb:NbT mg)(b:∃t,mg "FIGURES"=some (.str "0123456789" t)):Cal P w K mg base "is_number_text" 1 eW:=by
 refine zN ["word"] F λ_ _ _ _ _ _ _ _ Q nd hr h=>?_;obtain⟨n,rfl,hn,q⟩:=h;and_intros;refine nP (zZ7 (pL n)) ?_;and_intros;refine sM rfl (by rfl) nb.all (EvL.d (yt ["sign"] [none] (.one 0) (zD2 (zh 0 rfl ⟨_,rfl,zm3 n,?_⟩))));have f:(sgn (fig n)).length<=1000:=by
  unfold sgn;rw[zX0];exact zY1 (yP hn) (by decide)
 refine⟨f,?_⟩;refine zw (l:=(fig n).cps.toList) (g:=λc=>.str ⟨#[c]⟩) (λ_=>.bool true) (λc k=>⟨_,rfl,λC s2 m fp Q h=>?_⟩) ?_
 ·refine zx9 (zh 0 rfl (zd1 (by rfl) b ⟨_,_,rfl,rfl,?_⟩));rw[zC1 (wz n c k)];exact h
 refine⟨(fig n).cps.toList.map λ_=>true,by rw[z40];rfl,?_⟩;rw[show((fig n).cps.toList.map λ_=>true).all id=true from z67.mpr λx a=>by
  obtain⟨_,_,e⟩:=z06.mp a;exact e.symm]
 and_intros;by_cases z:n=0
 ·subst z;refine vS (z02 bD) ?_;exact q
 ·refine nP (zZ7 (zg4 (by lia))) ?_;obtain⟨c,r,e1,i⟩:=mi (n:=n) (by lia);refine lq (zc0 hr.units (zG4 (λ_ _=>rfl) (zh 0 rfl (yr ⟨_,_,c,rfl,rfl,zY1 (yP hn) (by decide),by rw[e1];exact zW (j:=0) rfl,?_⟩))));and_intros;have e:decide ((⟨#[c]⟩:Str)="0")=false:=zZ7 λe=>i (by
   have h:=congrArg (·.cps.toList) e;have z:("0":Str).cps.toList=[48]:=by decide +kernel
   exact(yb8 (h.trans z)).1)
  rw[e];exact q
theorem zd6 (F:FnD K mg "number_by" zq0 ["word"])(nb:NbT mg)(a:Cal P w K mg base "is_number_text" 1 eW):Cal P w K mg base "number_by" 2 mK:=by
 refine zN ["word"] F λ_ _ _ _ _ _ _ _ Q nd hr h=>?_;obtain⟨n,rfl,hn,q⟩:=h;and_intros;exact⟨hn,true,rfl,vS rfl (kN (by rfl) nb.int (zh 0 rfl ⟨_,_,rfl,zh1 (by lia),zY1 (yP hn) (by decide),q⟩))⟩
end
theorem wk (n:Nat):PyData.strOk (fig n)=true:=by
 unfold PyData.strOk;rw[yg8];intro c a;have:=wz n c (ya8.mpr a);exact z02 (by lia)
theorem sA {n:Nat}{c:Nat}{r:List Nat}{x:Str}(h:x.cps.toList=c::r)(a:57<c):fig n≠x:=by
 intro e;have:=wz n c (by rw[e,h];exact zX9 ..)
 lia
theorem sh1 {a:Str}(h:PyData.strOk a=true):SeqAt.shaped (.list [.str a])=true:=by simp[SeqAt.shaped,PyData.canLay0,PyData.canLayAll0,h,PyData.depth,PyData.depthAll]
theorem sh2 {a b:Str}(h:PyData.strOk a=true)(h':PyData.strOk b=true):SeqAt.shaped (.list [.str a,.str b])=true:=by simp[SeqAt.shaped,PyData.canLay0,PyData.canLayAll0,h,h',PyData.depth,PyData.depthAll]
theorem zT9 (a b:Str):PyData.eqv (.list [.str a]) (.list [.str b])=decide (a=b):=by
 show((a == b)&&true)=_;rw[Bool.and_true];by_cases h:a=b<;>simp[h]
theorem zU7 (a b c:Str):PyData.eqv (.list [.str a,.str b]) (.list [.str c])=false:=by simp[PyData.eqv,PyData.eqvAll]
theorem qX {a b:Str}{Q:Bool->Prop}(h1:PyData.strOk a=true)(h2:PyData.strOk b=true)(h:Q (decide (a=b))):rO (.list [.str a]) (.list [.str b]) Q:=eqk (sh1 h1) (sh1 h2) rfl rfl (by rw[zT9];exact h)
theorem zC0 {a b c:Str}{Q:Bool->Prop}(h1:PyData.strOk a=true)(h2:PyData.strOk b=true)(h3:PyData.strOk c=true)(h:Q false):rO (.list [.str a,.str b]) (.list [.str c]) Q:=eqk (sh2 h1 h2) (sh1 h3) rfl rfl (by rw[zU7];exact h)
theorem aP (n:Nat):fig n≠("none":Str):=sA (c:=110) (r:=[111,110,101]) (by decide +kernel) (by decide)
theorem zn1 (n:Nat):fig n≠("yes":Str):=sA (c:=121) (r:=[101,115]) (by decide +kernel) (by decide)
theorem zA4 (n:Nat):fig n≠("no":Str):=sA (c:=110) (r:=[111]) (by decide +kernel) (by decide)
def zv1 :Ph:=λas Q=>∃s v,as=[.dat (.list ((zS v).map .str))]/\WOk s v/\Q (.dat v)
section
variable {P:Program}{w:World}{K:PySem.W.Frag}{mg:Str->Option Value}{base:Heap}
theorem zj9 (F:FnD K mg "worth_by" zL3 ["words"])(nb:NbT mg)(f:Cal P w K mg base "number_by" 2 mK):Cal P w K mg base "worth_by" 3 zv1:=by
 refine zN ["words","numbers"] F λ_ _ _ _ _ _ _ _ Q nd hr h=>?_;obtain⟨x,v,rfl,d,q⟩:=h;cases d with
 |non _=>
  and_intros;refine qX (a:="none") (b:="none") (by decide +kernel) (by decide +kernel) (vn (by decide +kernel) ?_);and_intros;exact q
 |bl b _=>
  cases b with
  |true=>
   and_intros;refine qX (a:="yes") (b:="none") (by decide +kernel) (by decide +kernel) (zC (by decide +kernel) ?_);and_intros;refine qX (a:="yes") (b:="yes") (by decide +kernel) (by decide +kernel) (vn (by decide +kernel) ?_);and_intros;exact q
  |false=>
   and_intros;refine qX (a:="no") (b:="none") (by decide +kernel) (by decide +kernel) (zC (by decide +kernel) ?_);and_intros;refine qX (a:="no") (b:="yes") (by decide +kernel) (by decide +kernel) (zC (by decide +kernel) ?_);and_intros;refine qX (a:="no") (b:="no") (by decide +kernel) (by decide +kernel) (vn (by decide +kernel) ?_);and_intros;exact q
 |int n _ _ _ hn=>
  and_intros;refine qX (a:=fig n) (b:="none") (wk n) (by decide +kernel) (zC (zZ7 (aP n)) ?_);and_intros;refine qX (a:=fig n) (b:="yes") (wk n) (by decide +kernel) (zC (zZ7 (zn1 n)) ?_);and_intros;refine qX (a:=fig n) (b:="no") (wk n) (by decide +kernel) (zC (zZ7 (zA4 n)) ?_);and_intros;refine uE 1 ["word"] [none] (.one 0) (zK (zh 0 rfl ⟨_,rfl,z20 rfl,?_⟩));refine zw (l:=[n]) (g:=λn=>.str (fig n)) (λn=>.int n) (λm hm=>⟨_,rfl,λC s2 e fp Q h=>?_⟩) ?_
  ·cases zY0.mp hm;and_intros;exact⟨hn,h⟩
  ·refine vK 1 rfl ?_;and_intros;exact q
 |deal a b ha hb=>
  and_intros;refine zC0 (a:=fig a) (b:=fig b) (c:="none") (wk a) (wk b) (by decide +kernel) (zC rfl ?_);and_intros;refine zC0 (a:=fig a) (b:=fig b) (c:="yes") (wk a) (wk b) (by decide +kernel) (zC rfl ?_);and_intros;refine zC0 (a:=fig a) (b:=fig b) (c:="no") (wk a) (wk b) (by decide +kernel) (zC rfl ?_);and_intros;refine uE 1 ["word"] [none] (.one 0) (zK (zh 0 rfl ⟨_,rfl,z20 rfl,?_⟩));refine zw (l:=[a,b]) (g:=λn=>.str (fig n)) (λn=>.int n) (λm hm=>⟨_,rfl,λC s2 e fp Q h=>?_⟩) ?_
  ·simp only[zX6,zZ1,z08]at hm;and_intros;exact⟨by lia,h⟩
  ·refine vK 1 rfl ?_;and_intros;exact q
def zs9 :Ph:=λas Q=>∃(s:Str) (i j:Nat) (v:PyData),as=[.dat (.str (ui s i j v))]/\vc (.tuple [.str s,.int i,.int j,v])/\s∈words/\i<=1000000/\j<=1000000/\WOk s v/\Q (.dat (.tuple [.str s,.int i,.int j,v]))
theorem kl {s:Str}(h:s∈words):32∉s.cps.toList:=by
 simp only[words,zX6,zZ1,z08]at h;rcases h with rfl|rfl|rfl|rfl|rfl|rfl|rfl<;>decide +kernel
theorem wX (n:Nat):32∉(fig n).cps.toList:=λh=>by
 have:=wz n 32 h
 lia
theorem ni {s:Str}{v:PyData}(h:WOk s v):∀t∈zS v,32∉t.cps.toList:=by
 intro t c;cases h with
 |non _=>rw[zY0.mp c];decide +kernel
 |bl b _=>rw[zY0.mp c];cases b<;>decide +kernel
 |int n _ _ _ hn=>rw[zY0.mp c];exact wX _
 |deal a b ha hb=>
  rcases zX6.mp c with rfl|c
  ·exact wX _
  ·rw[zY0.mp c];exact wX _
theorem oR {s:Str}{i j:Nat}{v:PyData}(b:s∈words)(h:WOk s v):Txt.split (ui s i j v) " "=s::fig i::fig j::zS v:=by
 have e:(" ":Str)=⟨#[32]⟩:=by decide +kernel
 unfold ui;rw[e];refine rA 32 _ (λt a=>?_) (by simp);simp only[zX6]at a;rcases a with rfl|rfl|rfl|a
 ·exact kl b
 ·exact wX _
 ·exact wX _
 ·exact ni h t a
theorem qv {s:Str}{i j:Nat}{v:PyData}(c:s∈words)(hi:i<=1000000)(d:j<=1000000)(h:WOk s v):(ui s i j v).length<=400:=by
 have e:(" ":Str).length=1:=by decide +kernel
 unfold ui;rw[show Txt.join " " (s::fig i::fig j::zS v)=Str.join " " (s::fig i::fig j::zS v)from z46 _ _];have h1:=z99 " " (s::fig i::fig j::zS v);obtain⟨h2,h3⟩:=vE h;have f:((zS v).map (·.length)).sum<=50*(zS v).length:=by
  clear h1 h3 h;generalize zS v=l at h2
  induction l with
  |nil=>exact zX7 _
  |cons x r a=>
   have g1:=h2 x (zX9 ..);have g2:=a λt b=>h2 t (zX8 _ b);simp only[zZ2,z59,zY7]
   lia
 have g1:=qz c;have g2:(fig i).length<=13:=yP (by lia);have g3:(fig j).length<=13:=yP (by lia);simp only[zZ2,z59,zY7]at h1;rw[e]at h1
 lia
theorem zU1 (a b c:Str)(r:List Str):L2.cutD (List.map PyData.str (a::b::c::r)) (some 3) none=r.map .str:=by
 unfold L2.cutD;rw[show(some (3:Int))=some ((3:Nat):Int)from rfl,HT.sP,HT.jF];simp only[zX0,zY7,zZ2];rw[Nat.min_eq_left (by lia)];simp;rw[List.take_of_length_le (by rw[zX0];exact zX7 _)]
theorem zf7 (F:FnD K mg "rule_by" zJ8 ["text"])(nb:NbT mg)(g:Cal P w K mg base "number_by" 2 mK)(f:Cal P w K mg base "worth_by" 3 zv1)(c:Cal P w K mg base "is_rule" 6 zG3):Cal P w K mg base "rule_by" 7 zs9:=by
 refine zN ["text","words","rule"] F λ_ _ _ _ _ _ _ _ Q nd hr h=>?_;obtain⟨x,i,j,v,rfl,k,b,hi,e,a,q⟩:=h;refine yj 1 nd (EvL.d (oF (zh 0 rfl ⟨_,rfl,xj ⟨_,rfl,by decide +kernel,zY1 (yg0 (qv b hi e a) 2) (by decide),?_⟩⟩)));rw[oR b a];and_intros;have l:1<=(zS v).length:=by cases a<;>exact z20 rfl
 refine zC (zZ7 (by rw[zX0];simp only[zY7];lia)) ?_;and_intros;refine ixk rfl rfl (zW (j:=0) rfl) ?_;and_intros;refine ixk rfl rfl (zW (j:=1) rfl) ?_;and_intros;refine⟨by lia,?_⟩;and_intros;refine ixk rfl rfl (zW (j:=2) rfl) ?_;and_intros;refine⟨by lia,?_⟩;and_intros;refine⟨x,v,by rw[zU1],a,?_⟩;and_intros;exact⟨k.rule,_,rfl,vS rfl (zh 2 rfl q)⟩
end
abbrev zw4 :Stmt:=top 48
abbrev zv2 :Stmt:=top 49
def Sg (p:Nat->Prop)(t:Str):Prop:=∀c∈t.cps.toList,p c
theorem lM {p:Nat->Prop}{x y:Str}(b:Sg p x)(hy:Sg p y):Sg p (x++y):=λc a=>by
 rw[ya7,z52,z31]at a;exact a.elim (b c) (hy c)
theorem pj {p:Nat->Prop}{s:Str}(b:Sg p s):∀{ts:List Str},(∀t∈ts,Sg p t)->Sg p (Str.join s ts)
 |[],_=>λc a=>by
  have:(Str.join s []).cps.toList=[]:=by rfl
  rw[this]at a;cases a
 |[x],h=>h x (by simp)
 |x::y::r,h=>lM (lM (h x (by simp)) b) (pj b (ts:=y::r) λt d=>h t (zX8 _ d))
abbrev LnP (c:Nat):Prop:=c≠10/\c<128
theorem jy {t:Str}(h:(t.cps.toList.all λc=>decide (LnP c))=true):Sg LnP t:=λc a=>ya2 (z67.mp h c a)
theorem tV (n:Nat):Sg LnP (fig n):=λc a=>by have:=wz n c a;exact⟨by lia,by lia⟩
def txO :PyData->Str
 |.tuple [.str s,.int i,.int j,v]=>ui s i.toNat j.toNat v
 |_=>""
theorem wok {s:Str}{v:PyData}(j:s∈words)(h:zT (.str s) v=true):WOk s v:=by
 have g:∀{lo hi:Int},s≠"come"->s≠"go"->s≠"deal"->0<=lo->hi<=1000000000000->yM lo hi v=true->WOk s v:=λa b c d e z=>by
  obtain⟨i,rfl,h1,h2⟩:=zB z;have:=WOk.int (s:=s) i.toNat a b c (by lia)
  rwa [show((i.toNat:Nat):Int)=i by lia]at this
 simp only[words,zX6,zZ1,z08]at j;rcases j with rfl|rfl|rfl|rfl|rfl|rfl|rfl
 ·rcases none_or h with rfl|h
  ·exact .non (.inl rfl)
  ·exact g (by decide +kernel) (by decide +kernel) (by decide +kernel) (by decide) (by decide) h
 ·obtain⟨b,rfl⟩:=bool_inv h;exact .bl b (.inl rfl)
 ·obtain⟨b,rfl⟩:=bool_inv h;exact .bl b (.inr rfl)
 ·exact g (by decide +kernel) (by decide +kernel) (by decide +kernel) (by decide) (by decide) h
 ·exact g (by decide +kernel) (by decide +kernel) (by decide +kernel) (by decide) (by decide) h
 ·rcases none_or h with rfl|h
  ·exact .non (.inr rfl)
  ·obtain⟨m,f,rfl,h1,h2,h3,k⟩:=vm h;have:=WOk.deal m.toNat f.toNat (by lia) (by lia)
   rwa [show((m.toNat:Nat):Int)=m by lia,show((f.toNat:Nat):Int)=f by lia]at this
 ·exact g (by decide +kernel) (by decide +kernel) (by decide +kernel) (by decide) (by decide) h
theorem sr {d:PyData}(h:xk d=true):∃(t:Str) (i j:Nat) (v:PyData),d=.tuple [.str t,.int i,.int j,v]/\t∈words/\i<=1000000/\j<=1000000/\WOk t v:=by
 obtain⟨t,i,j,v,a,rfl,b,c,e,hw⟩:=yR h;obtain⟨i,rfl⟩:=z50 b;obtain⟨j,rfl⟩:=z50 (show 0<=j by lia);exact⟨t,i,j,v,rfl,a,by lia,by lia,wok a hw⟩
theorem pM {d:PyData}(h:xk d=true):Sg LnP (txO d)/\(txO d).length<=400:=by
 obtain⟨t,i,j,v,rfl,f,hi,g,e⟩:=sr h;refine⟨?_,qv f hi g e⟩;show Sg LnP (ui t i j v);unfold ui;rw[show Txt.join " " (t::fig i::fig j::zS v)=Str.join " " (t::fig i::fig j::zS v)from z46 _ _];refine pj (jy (by decide +kernel)) λx c=>?_;simp only[zX6]at c;rcases c with rfl|rfl|rfl|c
 ·clear e;simp only[words,zX6,zZ1,z08]at f;rcases f with rfl|rfl|rfl|rfl|rfl|rfl|rfl<;>exact jy (by decide +kernel)
 ·exact tV _
 ·exact tV _
 ·cases e with
  |non _=>rw[zY0.mp c];exact jy (by decide +kernel)
  |bl b _=>rw[zY0.mp c];cases b<;>exact jy (by decide +kernel)
  |int n _ _ _ hn=>rw[zY0.mp c];exact tV _
  |deal a b ha hb=>
   rcases zX6.mp c with rfl|c
   ·exact tV _
   ·rw[zY0.mp c];exact tV _
def bkT (ds:List PyData):Str:=Str.join "" (ds.map λd=>txO d++"\n")
theorem uR (x:Str):x++""=x:=uc (by rw[ya7,z52,show("":Str).cps.toList=[] by decide +kernel,z39])
theorem zj2 (x:Str):""++x=x:=uc (by rw[ya7,z52,show("":Str).cps.toList=[] by decide +kernel,z04])
theorem fb (x y z:Str):x++y++z=x++(y++z):=uc (by simp only[ya7,z52,List.append_assoc])
theorem rT (d:PyData)(ds:List PyData):bkT (d::ds)=txO d++"\n"++bkT ds:=by
 unfold bkT;cases ds with
 |nil=>exact(uR _).symm
 |cons e r=>
  show txO d++"\n"++""++Str.join "" _=_;rw[uR]
theorem jo :∀ds a:List PyData,bkT ds++bkT a=bkT (ds++a)
 |[],a=>zj2 _
 |d::ds,a=>by rw[yb2,rT,rT,fb,jo ds a]
theorem qx :∀ds:List PyData,bkT ds=Str.join "\n" (ds.map txO++[("":Str)])
 |[]=>rfl
 |d::ds=>by
  rw[rT,qx ds];cases ds<;>rfl
theorem rJ {ds:List PyData}(h:∀d∈ds,xk d=true)(f:ds.length<=24):Txt.split (bkT ds) "\n"=ds.map txO++[("":Str)]/\(bkT ds).length<=20000/\Sg (·<128) (bkT ds)/\JoinOk "" (ds.map λd=>txO d++"\n")=true:=by
 have e1:("\n":Str).length=1:=by decide +kernel
 have e:("":Str).length=0:=by decide +kernel
 have sl:=StrLaws.sumLen_le (B:=401) (ds.map λd=>txO d++"\n") λy hy=>by
  obtain⟨d,hd,rfl⟩:=z06.mp hy;have:=(pM (h d hd)).2;rw[yb5,e1]
  lia
 rw[zX0]at sl;have i:ds.length*401<=24*401:=z71 _ f;have g:50000<=sizeLine:=by decide
 refine⟨?_,?_,?_,?_⟩
 ·rw[qx,show("\n":Str)=⟨#[10]⟩ by decide +kernel,<-show Txt.join ⟨#[10]⟩ (ds.map txO++[("":Str)])=Str.join ⟨#[10]⟩ (ds.map txO++[("":Str)])from z46 _ _];refine rA 10 _ (λt b=>?_) (by simp);rcases z31.mp b with b|b
  ·obtain⟨d,hd,rfl⟩:=z06.mp b;exact λa=>((pM (h d hd)).1 10 a).1 rfl
  ·rw[zY0.mp b];decide +kernel
 ·have:=z99 "" (ds.map λd=>txO d++"\n");rw[e]at this;unfold bkT
  lia
 ·refine pj (λc a=>by rw[show("":Str).cps.toList=[] by decide +kernel]at a;cases a) λt b=>?_;obtain⟨d,hd,rfl⟩:=z06.mp b;refine lM (λc a=>((pM (h d hd)).1 c a).2) λc a=>?_;rw[show("\n":Str).cps.toList=[10] by decide +kernel]at a;rw[zY0.mp a];decide
 ·unfold JoinOk Builtin.Str.tooLong;rw[StrLaws.joinTotal,ya1,z38,e,Nat.mul_zero]
  lia
theorem zW0 (bs:List Str):L2.cutD (List.map PyData.str (bs++[("":Str)])) none (some (-1))=bs.map .str:=by
 rw[rC,z22,zZ9];simp
theorem zk6 (bs:List Str):atI ((bs++[("":Str)]).map PyData.str) (-1)=some (.str ""):=by
 rw[z22];exact uq _ _
def zc5 (C:Addr)(cs:Cs):Ph:=λas Q=>∃ds,as=[.dat (yh C cs ds)]/\zt ds/\ds.length<=24/\Q (.dat (.str (bkT ds)))
def za3 (C:Addr)(cs:Cs):Ph:=λas Q=>∃ds,as=[.dat (.str (bkT ds))]/\zt ds/\ds.length<=24/\Q (.dat (yh C cs ds))
section
variable {P:Program}{w:World}{K:PySem.W.Frag}{mg:Str->Option Value}{base:Heap}{cs:Cs}
theorem bV {C:Addr}(F:FnD K mg "show_book" zw4 ["book"])(nb:NbT mg)(b:Cal P w K mg base "rule_text" 2 ig)(m:xh P w K mg base C "rules" 3 (tN C cs)):Cal P w K mg base "show_book" 4 (zc5 C cs):=by
 refine zN ["book"] F λ_ _ _ _ _ _ _ _ Q nd hr h=>?_;obtain⟨ds,rfl,a,f,q⟩:=h;have n:50000<=sizeLine:=by decide
 refine xv (iq (xj ⟨_,rfl,EvL.d (yt ["rule"] [none] (.one 0) (zK (EvL.d ?_)))⟩));and_intros;refine⟨a.rules,by lia,?_⟩;and_intros;refine⟨by lia,?_⟩;refine cast (congrArg (λz=>yX _ _ _ _ _ z _ _) (List.map_id' ds)) ?_;refine zw (l:=ds) (g:=λd=>d) (λd=>.str (txO d++"\n")) (λd hd=>⟨_,rfl,λC s2 p fp Q h=>?_⟩) ?_
 ·have o:=(pM (a.all d hd)).2;obtain⟨t,i,j,v,rfl,k,hi,e,c⟩:=sr (a.all d hd);refine kR (vA b (hr.mono (by decide)) (by rfl) (zm (zh 0 rfl (zx ⟨t,i,j,v,rfl,k,hi,e,c,?_⟩))));exact xj ⟨_,_,rfl,rfl,by show(txO (.tuple [.str t,.int i,.int j,v])).length+1<=sizeLine;lia,h⟩
 refine⟨ds.map λd=>txO d++"\n",by rw[z04,z40];rfl,(rJ a.all f).2.2.2,?_⟩;rw[show Txt.join "" (ds.map λd=>txO d++"\n")=bkT ds from z46 _ _];exact q
theorem cJ {C:Addr}(F:FnD K mg "read_book" zv2 ["thing"])(nb:NbT mg)(c:Cal P w K mg base "rule_by" 7 zs9)(p:vH P w K mg base "Book" 9 [] (uJ C cs)):Cal P w K mg base "read_book" 11 (za3 C cs):=by
 refine zN ["thing","lines","rules","number","line","rule"] F λ_ _ o _ _ _ _ _ Q nd hr h=>?_;obtain⟨ds,rfl,j,l,q⟩:=h;obtain⟨sp,ln,_⟩:=rJ j.all l;have s:50000<=sizeLine:=by decide
 and_intros;refine⟨by lia,?_⟩;rw[sp];refine xl 2 nd (wI (zx ⟨_,rfl,z20 rfl,?_⟩));refine yq (.many [3,4]) (tH (by rfl) nb.enumerate (EvL.d (dJ (zh 1 rfl (jZ (jn ?_))))));and_intros;rw[zW0];refine zP (λi α=>∃f v4 g,α=[some (.dat (.str (bkT ds))),some (.dat (.list ((ds.map txO++[("":Str)]).map .str))),some (.own (ds.take i)),f,v4,g]) ⟨none,none,none,rfl⟩ ?_ ?_
 ·rintro i d α hd ⟨f,v4,g,rfl⟩;obtain⟨e,he,rfl⟩:=xt hd;rw[z40,zY3,zZ4]at he;obtain⟨r,he,rfl⟩:=he;have hi:=(zX5.mp he).1;have k:=j r (z23 he);obtain⟨t,a,b,v,rfl,n,ha,hb,m⟩:=sr k.rule;refine⟨_,rfl,?_⟩;refine yj 5 nd (vA c (hr.mono (by decide)) (by rfl) (zm (zh 4 rfl (zx ⟨t,a,b,v,rfl,k,n,ha,hb,m,?_⟩))));refine xV (vb (zh 5 rfl (zC rfl (zF ?_))));refine vk 2 rfl (zh 5 rfl ⟨by rw[z35];lia,zF ⟨_,_,_,by rw[take_snoc he]<;>rfl⟩⟩)
 ·rintro α ⟨f,v4,g,rfl⟩;rw[xr,zX0,zX0,z58];refine vK 2 rfl ?_;and_intros;refine ixk rfl rfl (zk6 _) ?_;and_intros;exact⟨ds,.inl rfl,j.rules,l,q⟩
end
abbrev oo :Stmt:=top 88
abbrev nLa :List Str:=["_law_script","_law_tape_here","_law_days","_law_base","_law_books_here","_law_texts","_law_read","_law_turn","_law_stay_here","_law_one","_law_other","_law_both"]
theorem zR4 :ya nLa ["_law_script"] (zg oo):=.o
theorem ji {Bs:List (List PyData)}(b:yf Bs)(bl:Bs.length<=4)(dl:∀ds∈Bs,ds.length<=10):zZ sizeLine (.list (Bs.map .list)):=by
 refine zZ.list (n:=10*(20011+2)+2) ⟨λd hd=>?_,λd hd=>?_⟩ ?_
 ·obtain⟨ds,hm,rfl⟩:=z06.mp hd;exact zZ.list (n:=20011) ⟨λd hd=>(b ds hm d hd).nice,λd hd=>by have:=(b ds hm d hd).dep;lia⟩ (yg0 (z71 _ (dl ds hm)) 2)
 ·obtain⟨ds,hm,rfl⟩:=z06.mp hd;have:PyData.depthAll ds<=2:=by
   have key:∀l:List PyData,(∀d∈l,d.depth<=2)->PyData.depthAll l<=2:=by
    intro l
    induction l with
    |nil=>intro _;simp[PyData.depthAll]
    |cons a l c=>
     intro h;simp only[PyData.depthAll];have:=h a zX9;have:=c λd hd=>h d (zX8 _ hd)
     lia
   exact key ds λd hd=>(b ds hm d hd).dep
  simp only[PyData.depth]
  lia
 ·rw[zX0];exact zY1 (yg0 (z71 _ bl) 2) (by decide)
theorem ze1 {b:Type}{f:b->PyData}{l:List b}(h:∀x∈l,(f x).canLay0=true/\(f x).hasDict=false/\(f x).depth<=8):PyData.canLayAll0 (l.map f)=true/\PyData.hasDictAll (l.map f)=false/\PyData.depthAll (l.map f)<=8:=by
 induction l with
 |nil=>simp[PyData.canLayAll0,PyData.hasDictAll,PyData.depthAll]
 |cons a l c=>
  obtain⟨h1,h2,h3⟩:=h a zX9;obtain⟨i1,i2,i3⟩:=c λx d=>h x (zX8 _ d);simp only[zZ2,PyData.canLayAll0,PyData.hasDictAll,PyData.depthAll,h1,h2,i1,i2];exact⟨rfl,rfl,by lia⟩
theorem mf {e:Type}{f:e->PyData}{l:List e}(h:∀x∈l,(f x).canLay0=true/\(f x).hasDict=false/\(f x).depth<=8){Q:Bool->Prop}(q:Q true):rO (.list (l.map f)) (.list (l.map f)) Q:=by
 obtain⟨c,a,b⟩:=ze1 h;have lay:(PyData.list (l.map f)).canLay0=true:=by simp only[PyData.canLay0,c]
 have d:SeqAt.shaped (.list (l.map f))=true:=by
  unfold SeqAt.shaped;rw[lay,yb6,z37];simp only[PyData.depth]
  lia
 exact eqk d d (by simp only[PyData.hasDict,a]) (by simp only[PyData.hasDict,a]) (by rw[SeqAt.eqv_refl _ lay];exact q)
theorem zz2 {x:Str}(h:Sg (·<128) x):PyData.strOk x=true:=by
 unfold PyData.strOk;rw[yg8];intro c a;have:=h c (ya8.mpr a);exact z02 (by lia)
section
variable {P:Program}{w:World}{K:PySem.W.Frag}{mg:Str->Option Value}{base:Heap}{cs:Cs}
theorem zy7 {f fT C:Addr}{fd v:FuncData}(F:Fun K "law" "law" oo f fd)(nb:NbT mg)(GT:yC P w K mg base CX0 1 fT v ["_law_script"] (lQ K))(Y:mg "_law_tape"=some (.ref fT))(Q:PySem.W.keepIn K (.ref fT)=true)(U:Binds K v ["_law_script"] [])
  (CD:Cal P w K mg base "_law_draw" 1 xC) (CB:Cal P w K mg base "_law_books" 11 (kO C cs)) (CS:Cal P w K mg base "_law_stay" 2 cV) (Z:Cal P w K mg base "best" 9 (eX C cs)) (CL:Cal P w K mg base "lets_by" 10 (bJ C cs)) (R:Cal P w K mg base "bars" 3 (oh C cs)) (V:Cal P w K mg base "show_book" 4 (zc5 C cs)) (B:Cal P w K mg base "read_book" 11 (za3 C cs)) (X:Cal P w K mg base "laid" 11 (dC C cs)) (MR:xh P w K mg base C "rules" 3 (tN C cs)):
  yC P w K mg base CX0 13 f fd ["_law_script"] (ml K):=by
 refine zS9 (k:=11) F zR4 GT Y Q U rfl rfl (Or.inl rfl) (Or.inl rfl) (λcdv A' outer s H E hr=>?_);have nd:=zR4.nd;and_intros;refine jg (λd=>∃b:Int,d=.int b/\0<=b/\b<=999980) rfl (by assumption) (by assumption) ⟨⟨_,rfl,by lia,by lia⟩,⟨_,rfl,by lia,by lia⟩,⟨_,rfl,by lia,by lia⟩,trivial⟩ ?_;rintro _ ⟨b,rfl,L,O⟩;rename_i v1 a1 e1 v2 a2 e2 v3 a3 e3;have bd:Bd b (2+v1):=⟨L,O,by lia,by lia⟩;generalize 2+v1=dy at bd;and_intros;refine⟨b,dy,rfl,bd,λBs a t u dl=>?_⟩;have n:∀ds∈Bs,zt ds/\ds.length<=24:=λds hd=>⟨a ds hd,by have:=dl ds hd;lia⟩;have ln:(Bs.map (yh C cs)).length<=1000:=by rw[zX0];lia
 refine uE 5 ["_law_book"] [none] (.one 0) (zK (zh 4 rfl ⟨_,rfl,ln,?_⟩));refine zw (λds=>.str (bkT ds)) (λds hd=>⟨_,rfl,λ_ _ _ _ _ k=>?_⟩) ?_
 ·and_intros;exact⟨(n ds hd).1,(n ds hd).2,k⟩
 rw[z04];refine vK 5 rfl ?_;refine uE 6 ["_law_text"] [none] (.one 0) (zK (zh 5 rfl ⟨_,rfl,by rw[zX0];lia,?_⟩));refine zw (yh C cs) (λds hd=>⟨_,rfl,λ_ _ _ _ _ k=>?_⟩) ?_
 ·and_intros;exact⟨(n ds hd).1,(n ds hd).2,k⟩
 rw[z04];refine vK 6 rfl ?_;refine xV (og hr.units (EvL.d (yt ["_law_book"] [none] (.one 0) (zK (zh 6 rfl ⟨_,rfl,ln,?_⟩)))));refine zw (λds=>.str (bkT ds)) (λds hd=>⟨_,rfl,λ_ _ _ _ _ k=>?_⟩) ?_
 ·and_intros;exact⟨(n ds hd).1,(n ds hd).2,k⟩
 rw[z04];refine zh 5 rfl (mf (λds hd=>⟨by simp only[PyData.canLay0];exact zz2 (rJ (n ds hd).1.all (n ds hd).2).2.2.1,rfl,zY9 _⟩) (zC rfl (zF ?_)));refine xV (og hr.units (pD hr.gd hr.units (by rfl) nb.repr (EvL.d (yt ["_law_book"] [none] (.one 0) (zK (zh 6 rfl ⟨_,rfl,ln,?_⟩))))));refine zw (λds=>.list ds) (λds hd=>⟨_,rfl,λ_ _ _ _ _ k=>?_⟩) ?_
 ·and_intros;exact⟨(a ds hd).rules,by have:=dl ds hd;lia,k⟩
 rw[z04];refine⟨ji a u dl,pD hr.gd hr.units (by rfl) nb.repr (EvL.d (yt ["_law_book"] [none] (.one 0) (zK (zh 4 rfl ⟨_,rfl,ln,?_⟩))))⟩;refine zw (λds=>.list ds) (λds hd=>⟨_,rfl,λ_ _ _ _ _ k=>?_⟩) ?_
 ·and_intros;exact⟨(a ds hd).rules,by have:=dl ds hd;lia,k⟩
 rw[z04];refine⟨ji a u dl,qY (zC (by simp) (zF ?_))⟩;refine yq (.one 7) (xW (by rfl) nb.range ?_);and_intros;refine⟨by decide,by decide,?_⟩;refine zP (λi α=>∃J I D q:Option A,α=[none,some .tape,some (.dat (.int dy)),some (.dat (.int b)),some (.dat (zH C cs Bs)),some (.dat (.list (Bs.map λds=>.str (bkT ds)))),some (.dat (zH C cs Bs)),J,I,D,q,none]) ⟨none,none,none,none,rfl⟩ ?_ ?_
 ·rintro i d α hd ⟨J,I,D,q,rfl⟩;refine⟨_,rfl,?_⟩;and_intros;refine⟨b,dy,rfl,bd,λc g e=>?_⟩;obtain⟨c0,cg,g1,g2⟩:=id e;and_intros;refine⟨Bs,c,g,rfl,a,by lia,e,λS=>?_⟩;and_intros;refine⟨Bs,c,g,rfl,a,by lia,e,λS=>?_⟩;obtain⟨G,tr,T,hw⟩:∃(G:Str) (tr:List PyData),bestOf Bs c g=.tuple (.str G::tr)/\(G="had"->∃x r,tr=.int x::r):=by
   rcases rH a e with⟨x,ps,pp,h⟩|⟨ds,h⟩
   ·exact⟨_,_,h.eq,λ_=>⟨_,_,rfl⟩⟩
   ·exact⟨_,_,h.eq,λz=>absurd z (by decide +kernel)⟩
  refine xx (λα=>α=[none,some .tape,some (.dat (.int dy)),some (.dat (.int b)),some (.dat (zH C cs Bs)),some (.dat (.list (Bs.map λds=>.str (bkT ds)))),some (.dat (zH C cs Bs)),some (.dat d),some (.dat (.tuple [.int c,.int g])),some (.dat (bestOf Bs c g)),some (.dat (bestOf Bs c g)),none]) ?_ ?_
  ·rw[T];and_intros;refine nP (by simp) ?_;and_intros;refine mE (λh=>?_) (λ_=>?_)
   ·obtain⟨x,r,rfl⟩:=hw (ya2 h);and_intros;refine zC (by simp) ?_;and_intros;rfl
   ·and_intros;rfl
  rintro α rfl;refine xx (λα=>α=[none,some .tape,some (.dat (.int dy)),some (.dat (.int b)),some (.dat (zH C cs Bs)),some (.dat (.list (Bs.map λds=>.str (bkT ds)))),some (.dat (zH C cs Bs)),some (.dat d),some (.dat (.tuple [.int c,.int g])),some (.dat (bestOf Bs c g)),some (.dat (bestOf Bs c g)),none]) ?_ ?_
  ·and_intros;refine⟨Bs,c,g,rfl,a,by lia,e,?_⟩;and_intros;refine⟨Bs,c,g,rfl,a,by lia,e,?_⟩;and_intros;rfl
  rintro α rfl;refine xV (og hr.units (EvL.d (yt ["_law_book","_law_stay_here"] [none,some 8] (.one 0) (zK (zh 4 rfl ⟨_,rfl,ln,?_⟩)))));refine zw (λds=>.list (xK ds c g)) (λds hd=>⟨_,rfl,λ_ _ _ _ _ k=>?_⟩) ?_
  ·and_intros;exact⟨ds,c,g,rfl,(a ds hd).rules,by lia,by lia,by lia,by lia,k⟩
  rw[z04];refine EvL.d (yt ["_law_book","_law_stay_here"] [none,some 8] (.one 0) (zK (zh 6 rfl ⟨_,rfl,ln,?_⟩)));refine zw (λds=>.list (xK ds c g)) (λds hd=>⟨_,rfl,λ_ _ _ _ _ k=>?_⟩) ?_
  ·and_intros;exact⟨ds,c,g,rfl,(a ds hd).rules,by lia,by lia,by lia,by lia,k⟩
  rw[z04];refine mf (λds _=>⟨(xR e).lay,(xR e).nod,(xR e).dep⟩) (zC rfl (zF (zF ⟨_,_,_,_,rfl⟩)))
 ·rintro α ⟨J,I,D,q,rfl⟩;obtain⟨o,hd0⟩:∃o,Bs[0]?=some o:=⟨_,zX3 (by lia)⟩;obtain⟨l,y⟩:∃l,Bs=Bs.dropLast++[l]:=⟨Bs.getLast (λz=>by rw[z]at t;simp at t),(List.dropLast_concat_getLast _).symm⟩;have m:=a o (z23 hd0);have l0:=dl o (z23 hd0);have M:l∈Bs:=by rw[y];simp
  have p:=a l M;have lz:=dl l M;have N:atI (Bs.map (yh C cs)) 0=some (yh C cs o):=zW (j:=0) (by rw[zY3,hd0]<;>rfl);have an:atI (Bs.map (yh C cs)) (-1)=some (yh C cs l):=by rw[y,z22];exact uq _ _
  have t0:atI (Bs.map λds=>PyData.str (bkT ds)) 0=some (.str (bkT o)):=zW (j:=0) (by rw[zY3,hd0]<;>rfl);have tn:atI (Bs.map λds=>PyData.str (bkT ds)) (-1)=some (.str (bkT l)):=by rw[y,z22];exact uq _ _
  and_intros;refine ixk rfl rfl N ?_;and_intros;refine⟨m.rules,by lia,?_⟩;and_intros;refine ixk rfl rfl an ?_;and_intros;refine⟨p.rules,by lia,?_⟩;and_intros;refine vP (λh=>?_) (λh=>?_)
  ·and_intros;rfl
  have h:=of_decide_eq_false h;have L:=(rJ m.all (by lia)).2.1;have b2:=(rJ p.all (by lia)).2.1;have h6:50000<=sizeLine:=by decide
  refine zF (yj 11 nd (vA B (hr.mono (by decide)) (by rfl) (zm (kR (mG hr.one (λ_ _=>rfl) (zh 5 rfl (yr (ixk rfl rfl t0 ?_))))))));and_intros;refine ixk rfl rfl tn ⟨_,_,rfl,rfl,by lia,zx ⟨o++l,by rw[jo],m.app p,by rw[zZ9];lia,?_⟩⟩;and_intros;refine⟨(m.app p).rules,by rw[zZ9];lia,?_⟩;refine⟨(m.app p).nice (by rw[zZ9];lia),?_⟩;and_intros;refine ixk rfl rfl N ?_;and_intros;refine ixk rfl rfl an ?_;and_intros;refine⟨o,l,rfl,m,p,by lia,?_⟩;and_intros;refine⟨(m.app p).rules,by rw[zZ9];lia,?_⟩;refine⟨(m.app p).nice (by rw[zZ9];lia),qY ?_⟩;simp
end
theorem us1 {α:Type}{p:List α->Prop}(h:∀a,p [a])(us:List α)(b:us.length=1):p us:=by
 obtain⟨a,rfl⟩:=List.length_eq_one_iff.mp b;exact h a
theorem us2 {α:Type}{p:List α->Prop}(h:∀a b,p [a,b])(us:List α)(c:us.length=2):p us:=by
 cases us with
 |nil=>cases c
 |cons a us=>exact us1 (p:=λus=>p (a::us)) (h a) us (Nat.succ.inj c)
theorem us3 {α:Type}{p:List α->Prop}(h:∀a b c,p [a,b,c])(us:List α)(d:us.length=3):p us:=by
 cases us with
 |nil=>cases d
 |cons a us=>exact us2 (p:=λus=>p (a::us)) (h a) us (Nat.succ.inj d)
theorem us4 {α:Type}{p:List α->Prop}(h:∀a b c d,p [a,b,c,d])(us:List α)(e:us.length=4):p us:=by
 cases us with
 |nil=>cases e
 |cons a us=>exact us3 (p:=λus=>p (a::us)) (h a) us (Nat.succ.inj e)
theorem us5 {α:Type}{p:List α->Prop}(h:∀a b c d e,p [a,b,c,d,e])(us:List α)(f:us.length=5):p us:=by
 cases us with
 |nil=>cases f
 |cons a us=>exact us4 (p:=λus=>p (a::us)) (h a) us (Nat.succ.inj f)
def FnF (K:PySem.W.Frag)(f:Addr)(nm a:Str)(st:Stmt)(ps:List Str):Prop:=∃fd,Fun K nm a st f fd/\Binds K fd ps []
section
variable {K:PySem.W.Frag}{h0:Heap}{mg:Str->Option Value}{f:Addr}{nm ql:Str}{st:Stmt}{ps:List Str}{oc kV dc pm cd ct:Value}{od an:Option Addr}{sl:Array (Option Value)}
theorem mkF (l:K.lookup f=some ⟨oc,od,.func (PySem.W.fnOf nm ql (zR st) (zu st) (zg st) .none kV dc pm an cd ct),sl⟩)(c:PySem.W.codeIn K cd ql=true)(k:PySem.W.keepIn K (.ref f)=true)
  (hb:∀(kV doc pm:Value) (an:Option Addr) (cdv ct:Value) (us:List Value),us.length=ps.length->bindArgs (PySem.W.fnOf nm ql (zR st) (zu st) (zg st) .none kV doc pm an cdv ct) ⟨us,[]⟩=pure (ps.zip us):=by intro _ _ _ _ _ _;first|exact K93.us1 λ_=>rfl|exact K93.us2 λ_ _=>rfl|exact K93.us3 λ_ _ _=>rfl|exact K93.us4 λ_ _ _ _=>rfl|exact K93.us5 λ_ _ _ _ _=>rfl):FnF K f nm ql st ps:=⟨_,ph l c k,(ph l c k).binds hb⟩
theorem mkG (X:K.In h0)(G:h0.Ns mainGlobals mg)(a:PySem.W.nsIn K mainGlobals nm=some (some (.ref f)))(q:FnF K f nm nm st ps):FnD K mg nm st ps:=by
 obtain⟨_,F,b⟩:=q;exact⟨f,_,F,z27 X G a,b⟩
end
theorem mkR {K:PySem.W.Frag}{C b gt ge a:Addr}(pg:PySem.W.plainGet K C Str.empty=true)(hd:PySem.W.hasDictIn K C=true)(po:PySem.W.plainOver K C=true)(sa:PySem.W.findIn K (.ref C) "__setattr__"=some (some (.builtin "object.__setattr__")))(n1:PySem.W.findIn K (.ref C) "first"=some none)(d:PySem.W.findIn K (.ref C) "last"=some none)(h:PySem.W.findIn K (.ref C) "worth"=some none)(mk:PySem.W.makesIn K C=true)(f1:PySem.W.findIn K (.ref C) "__init__"=some (some (.ref b)))(i1:PySem.W.isFn K (.ref b)=true)(f:PySem.W.keepIn K (.ref C)=true)(f2:PySem.W.findIn K (.ref C) "told"=some (some (.ref gt)))(i2:PySem.W.isFn K (.ref gt)=true)(e:PySem.W.keepIn K (.ref gt)=true)(c:PySem.W.findIn K (.ref C) "tells"=some (some (.ref ge)))(i3:PySem.W.isFn K (.ref ge)=true)(j:PySem.W.keepIn K (.ref ge)=true)(f4:PySem.W.findIn K (.ref C) "word"=some (some (.ref a)))(i:PySem.W.isFn K (.ref a)=true)(g:PySem.W.keepIn K (.ref a)=true):tq K C b gt ge a:=⟨⟨pg,hd,po,sa⟩,n1,d,h,⟨mk,f1,i1,f⟩,⟨f2,i2,e⟩,⟨c,i3,j⟩,⟨f4,i,g⟩⟩
theorem eh {K:PySem.W.Frag}{dT:Addr}{oc kV doc pm cdv ct:Value}{od an:Option Addr}{n:Nat}{sl:Array (Option Value)}(b:K.lookup dT=some ⟨oc,od,.seq #[.none] n,sl⟩):
  Binds K (PySem.W.fnOf "__init__" "Book.__init__" (zR xi) (zu xi) (zg xi) (.ref dT) kV doc pm an cdv ct) ["self","rules"] [.none]:=λs us hk a=>by
 match us,(show us.length=1 by rw[zZ9]at a;simpa using a)with
 |[u],_=>exact BindsTo.of_defaults (T:=dT) rfl (hk _ _ b) rfl rfl rfl
theorem gL {K:PySem.W.Frag}{dT:Addr}{oc kV doc pm cdv ct:Value}{od an:Option Addr}{n:Nat}{sl:Array (Option Value)}(b:K.lookup dT=some ⟨oc,od,.seq #[.none] n,sl⟩):
  Binds K (PySem.W.fnOf "__init__" "Book.__init__" (zR xi) (zu xi) (zg xi) (.ref dT) kV doc pm an cdv ct) ["self","rules"] []:=λs us hk a=>by
 rw[z39]at a ⊢
 match us,a with
 |[u,v],_=>exact BindsTo.of_defaults (T:=dT) rfl (hk _ _ b) rfl rfl rfl
theorem zg2 {P:Str->Prop}(h1:P "price")(h2:P "come")(h3:P "go")(b:P "least")(c:P "most")(d:P "deal")(e:P "fee"):∀u∈words,P u:=by
 intro u a;simp only[words,zX6,zZ1,z08]at a;rcases a with rfl|rfl|rfl|rfl|rfl|rfl|rfl<;>assumption
theorem all_mk {l:PySem.W.OpenLaw}{w:World}{K:PySem.W.Frag}{h:Heap}{mg:Str->Option Value}{fa cC j3 m5 m n g b5 d6 i5 b4 d3 d1 f2 b d Z a f c p CB dT k T V dU:Addr}(X:K.In h)(G:h.Ns mainGlobals mg)(x6:mg "law"=some (.ref fa))
  {n6 n3 n4 l4 v1 r2 y3:Option Addr} {n7 o2 slB r5:Array (Option Value)} {o3 q4 o8 o4 o1 q8 l2 l5 l1 l0 h8 y6 r3 t8 u1 ctB o6 r8:Value} {q2 l9 p1 o7 n8 t4 v0 x9 t5 u5 v9 v6 v4 u4 p3:Tok} {n0 p0 q5 q1 p8 o9 n5:Int} {nT nU:Nat}
  (a0:FnD K mg "is_whole" cR ["thing"])
  (H:FnD K mg "is_whole_within" js ["thing","lowest","highest"])
  (f0:FnD K mg "is_pair" zx1 ["thing"])
  (g0:FnD K mg "is_day" zP6 ["thing"])
  (F:FnD K mg "is_pair_of_days" zx3 ["thing"])
  (a6:FnD K mg "is_stretch" nv ["thing"])
  (d4:FnD K mg "is_coins" dW ["thing"])
  (e5:FnD K mg "is_deal" ju ["thing"])
  (d2:FnD K mg "is_worth" eL ["word","thing"])
  (e9:FnD K mg "is_rule" iu ["thing"])
  (k6:FnD K mg "made" zt8 ["word","first","last","worth"])
  (d9:FnD K mg "rule_of" kK ["thing"])
  (c8:FnD K mg "nights_of" kM ["stay"])
  (i2:FnD K mg "usual" eO ["word"])
  (a9:FnD K mg "kept_rules" zs8 ["things"])
  (j8:FnD K mg "laid" zp2 ["elder","newer"])
  (a3:FnD K mg "worth_text" bB ["worth"])
  (b9:FnD K mg "rule_text" cI ["rule"])
  (M:FnD K mg "is_number_text" zp7 ["word"])
  (c2:FnD K mg "number_by" zq0 ["word"])
  (d8:FnD K mg "worth_by" zL3 ["words"])
  (e3:FnD K mg "rule_by" zJ8 ["text"])
  (d0:FnD K mg "show_book" zw4 ["book"])
  (c3:FnD K mg "read_book" zv2 ["thing"])
  (y9:PySem.W.nsIn K mainGlobals "cheapest_first"=some (some (.ref j3)))
  (o5:K.lookup j3=some ⟨o3,n6,.func (PySem.W.fnOf "cheapest_first" "cheapest_first" (zR yD) (zu yD) (zg yD) .none q4 o8 o4 n3 (.ref cC) o1),n7⟩)
  (q0:PySem.W.codeIn K (.ref cC) "cheapest_first"=true)
  (q3:PySem.W.keepIn K (.ref j3)=true)
  (f9:FnD K mg "marked" vZ ["prices","deal"])
  (a1:FnD K mg "night_prices" sNP ["book","nights"])
  (j4:FnD K mg "bill" si ["book","stay"])
  (k9:FnD K mg "bars" nV ["book","stay"])
  (b1:FnD K mg "can_be_had" zQ5 ["book","stay"])
  (k2:FnD K mg "cost" zw5 ["book","stay"])
  (a2:FnD K mg "cost_or_none" zR9 ["book","stay"])
  (d5:FnD K mg "arrivals" zL7 ["books","ways","day"])
  (a7:FnD K mg "least_ways" sLW ["books","stay"])
  (g9:FnD K mg "cut_of" bG ["ways","stay"])
  (d7:FnD K mg "paper_of" cp ["ways","stay"])
  (k7:FnD K mg "best" zv7 ["books","stay"])
  (e4:FnD K mg "is_part" jV ["books","stay","thing"])
  (h0:FnD K mg "is_cut" dF ["books","stay","thing"])
  (c4:FnD K mg "cut_coins" zv5 ["books","cut"])
  (A:FnD K mg "is_list_of_wholes" zN7 ["thing"])
  (Y:FnD K mg "costs_no_less" zP1 ["books","stay","coins"])
  (z:FnD K mg "no_part_costs_less" zL0 ["books","stay","paper"])
  (g3:FnD K mg "is_had" aT ["books","stay","coins","cut","paper"])
  (b8:FnD K mg "leads_out" dA ["books","day","go","days"])
  (O:FnD K mg "is_rising_from" je ["days","first"])
  (g5:FnD K mg "is_off" du ["books","stay","days"])
  (e2:FnD K mg "lets_by" zp9 ["books","stay","thing"])
  (c7:FnD K mg "_law_tape" qC ["_law_script"])
  (c5:FnD K mg "_law_draw" bA ["_law_tape_here","_law_many"])
  (a4:FnD K mg "_law_coins" jh ["_law_tape_here"])
  (a5:FnD K mg "_law_worth" kP ["_law_tape_here","_law_word"])
  (D:FnD K mg "_law_price_rules" iC ["_law_tape_here","_law_base","_law_days"])
  (E:FnD K mg "_law_other_rules" jq ["_law_tape_here","_law_base","_law_days"])
  (b0:FnD K mg "_law_rules" iz ["_law_tape_here","_law_base","_law_days"])
  (b7:FnD K mg "_law_stay" zr3 ["_law_tape_here","_law_base","_law_days"])
  (a8:FnD K mg "_law_books" ib ["_law_tape_here","_law_base","_law_days"])
  (a58:PySem.W.nsIn K mainGlobals "law"=some (some (.ref m5)))
  (w5:K.lookup m5=some ⟨q8,n4,.func (PySem.W.fnOf "law" "law" (zR oo) (zu oo) (zg oo) .none l2 l5 l1 l4 h8 l0),o2⟩)
  (u8:PySem.W.codeIn K h8 "law"=true)
  (r9:PySem.W.keepIn K (.ref m5)=true)
  (i6:PySem.W.nsIn K mainGlobals "Price"=some (some (.ref b)))
  (k8:PySem.W.nsIn K mainGlobals "Come"=some (some (.ref d)))
  (p4:PySem.W.nsIn K mainGlobals "Go"=some (some (.ref Z)))
  (h3:PySem.W.nsIn K mainGlobals "Least"=some (some (.ref a)))
  (j7:PySem.W.nsIn K mainGlobals "Most"=some (some (.ref f)))
  (k5:PySem.W.nsIn K mainGlobals "Deal"=some (some (.ref c)))
  (m1:PySem.W.nsIn K mainGlobals "Fee"=some (some (.ref p)))
  (C:tq K b m n g b5)
  (U:tq K d m n g d6)
  (f8:tq K Z m n g i5)
  (B:tq K a m n g b4)
  (S:tq K f m n g d3)
  (R:tq K c m n g d1)
  (b3:tq K p m n g f2)
  (k1:FnF K m "__init__" "Rule.__init__" zu0 ["self","first","last","worth"])
  (j6:FnF K n "told" "Rule.told" zr7 ["self"])
  (i8:FnF K g "tells" "Rule.tells" zb7 ["self","day"])
  (g8:FnF K b5 "word" "Price.word" zg7 ["self"])
  (h9:FnF K d6 "word" "Come.word" zG6 ["self"])
  (m9:FnF K i5 "word" "Go.word" zT5 ["self"])
  (g2:FnF K b4 "word" "Least.word" zj5 ["self"])
  (h4:FnF K d3 "word" "Most.word" zC7 ["self"])
  (i0:FnF K d1 "word" "Deal.word" zB6 ["self"])
  (k3:FnF K f2 "word" "Fee.word" zR3 ["self"])
  (aCB:PySem.W.nsIn K mainGlobals "Book"=some (some (.ref CB)))
  (g1:PySem.W.findIn K (.ref CB) "__init__"=some (some (.ref k)))
  (g7:PySem.W.isFn K (.ref k)=true)
  (h7:K.lookup k=some ⟨y6,v1,.func (PySem.W.fnOf "__init__" "Book.__init__" (zR xi) (zu xi) (zg xi) (.ref dT) r3 t8 u1 r2 o6 ctB),slB⟩)
  (h5:PySem.W.codeIn K o6 "Book.__init__"=true)
  (i9:PySem.W.keepIn K (.ref k)=true)
  (lT:K.lookup dT=some ⟨r8,y3,.seq #[.none] nT,r5⟩)
  (e1:PySem.W.findIn K (.ref CB) "rules"=some (some (.ref T)))
  (e6:PySem.W.isFn K (.ref T)=true)
  (f3:FnF K T "rules" "Book.rules" vU ["self"])
  (e8:PySem.W.findIn K (.ref CB) "tells_of"=some (some (.ref V)))
  (e7:PySem.W.isFn K (.ref V)=true)
  (g6:FnF K V "tells_of" "Book.tells_of" jz ["self","word","day"])
  (s8:PySem.W.plainGet K CB Str.empty=true)
  (z0:PySem.W.hasDictIn K CB=true)
  (poB:PySem.W.plainOver K CB=true)
  (y4:PySem.W.findIn K (.ref CB) "__setattr__"=some (some (.builtin "object.__setattr__")))
  (t0:PySem.W.makesIn K CB=true)
  (u2:PySem.W.keepIn K (.ref CB)=true)
  (l8:PySem.W.findIn K (.ref CB) "kept"=some none)
  (z1:PySem.W.nsIn K mainGlobals "abs"=some none)
  (z2:PySem.W.nsIn K mainGlobals "list"=some none)
  (z3:PySem.W.nsIn K mainGlobals "len"=some none)
  (z4:PySem.W.nsIn K mainGlobals "range"=some none)
  (z5:PySem.W.nsIn K mainGlobals "min"=some none)
  (z6:PySem.W.nsIn K mainGlobals "max"=some none)
  (z7:PySem.W.nsIn K mainGlobals "sorted"=some none)
  (z8:PySem.W.nsIn K mainGlobals "isinstance"=some none)
  (z9:PySem.W.nsIn K mainGlobals "int"=some none)
  (v5:PySem.W.nsIn K mainGlobals "bool"=some none)
  (t9:PySem.W.nsIn K mainGlobals "str"=some none)
  (s5:PySem.W.nsIn K mainGlobals "tuple"=some none)
  (u3:PySem.W.nsIn K mainGlobals "all"=some none)
  (v8:PySem.W.nsIn K mainGlobals "any"=some none)
  (r7:PySem.W.nsIn K mainGlobals "repr"=some none)
  (s2:PySem.W.nsIn K mainGlobals "zip"=some none)
  (s6:PySem.W.nsIn K mainGlobals "enumerate"=some none)
  (y0:PySem.W.nsIn K mainGlobals "reversed"=some none)
  (s4:PySem.W.nsIn K mainGlobals "sum"=some none)
  (r6:PySem.W.nsIn K mainGlobals "LAST_DAY"=some (some (.int 1000000 q2)))
  (n1:PySem.W.nsIn K mainGlobals "MOST_NIGHTS"=some (some (.int 14 l9)))
  (y7:PySem.W.nsIn K mainGlobals "MOST_COINS"=some (some (.int 1000000000000 p1)))
  (u0:PySem.W.nsIn K mainGlobals "MOST_RULES"=some (some (.int 24 o7)))
  (aU:PySem.W.nsIn K mainGlobals "USUAL"=some (some (.ref dU)))
  (lU:K.lookup dU=some ⟨.type "dict",none,.dict #[⟨n0,.str "price" t4,.none⟩,⟨p0,.str "come" v0,.bool true⟩,⟨q5,.str "go" x9,.bool true⟩,⟨q1,.str "least" t5,.int 1 v4⟩,⟨p8,.str "most" u5,.int 14 u4⟩,⟨o9,.str "deal" v9,.none⟩,⟨n5,.str "fee" v6,.int 0 p3⟩] nU,#[]⟩)
  (w7:n0=hashStr w "price")
  (hh2:p0=hashStr w "come")
  (t2:q5=hashStr w "go")
  (w4:q1=hashStr w "least")
  (y5:p8=hashStr w "most")
  (w3:o9=hashStr w "deal")
  (w1:n5=hashStr w "fee")
  (r4:PySem.W.nsIn K mainGlobals "FIGURES"=some (some (.str "0123456789" n8)))
  (hhd:PySem.W.codeHdIn K cC yn=true):
  ∃fd:FuncData,(∀(s:Shared) (v:Value),BindsTo s fd ⟨[v],[]⟩ [("_law_script",v)])/\∀base:Heap,K.In base->base.Ns mainGlobals mg->base.BuiltinsAt mg yn->yC l.prog w K mg base CX0 13 fa fd ["_law_script"] (ml K):=by
 have e:=x6.symm.trans (z27 X G a58);cases e;have nb:NbT mg:=⟨z03 X G z1,z03 X G z2,z03 X G z3,z03 X G z4,z03 X G z5,z03 X G z6,z03 X G z7,z03 X G z8,z03 X G z9,z03 X G v5,z03 X G t9,z03 X G s5,z03 X G u3,z03 X G v8,z03 X G r7,z03 X G s2,z03 X G s6,z03 X G y0,z03 X G s4⟩;have N:mg "cheapest_first"=some (.ref j3):=z27 X G y9;have I:=ph (st:=yD) o5 q0 q3;have J:=I.binds (ps:=["prices","places"]) λ_ _ _ _ _ _=>us2 λ_ _=>rfl;obtain⟨_,_,L,c6,c0⟩:=c7;obtain⟨_,_,Q,c1,c9⟩:=c5;have i1:=ph (st:=oo) w5 u8 r9;have w0:=i1.binds (ps:=["_law_script"]) λ_ _ _ _ _ _=>us1 λ_=>rfl;obtain⟨_,y,x⟩:=k1;obtain⟨_,q,r⟩:=j6;obtain⟨_,i,j⟩:=i8;obtain⟨_,f5,f4⟩:=g8;obtain⟨_,j0,h6⟩:=h9;obtain⟨_,m6,m4⟩:=m9;obtain⟨_,f7,h1⟩:=g2;obtain⟨_,i3,h2⟩:=h4;obtain⟨_,i4,j1⟩:=i0;obtain⟨_,k4,j2⟩:=k3;obtain⟨_,b6,g4⟩:=f3;obtain⟨_,b2,f6⟩:=g6;have e0:∃t,mg "FIGURES"=some (.str "0123456789" t):=⟨n8,z27 X G r4⟩;have TT:zG2 mg:=⟨nb.abs,nb.list,nb.len⟩;refine⟨PySem.W.fnOf "law" "law" (zR oo) (zu oo) (zg oo) .none l2 l5 l1 l4 h8 l0,λs v=>.of_eq rfl,λbase KX _ hbi=>?_⟩;have j9:=yU (P:=l.prog) (w:=w) (base:=base) C (z27 X G i6) y x;have m0:=yU (P:=l.prog) (w:=w) (base:=base) U (z27 X G k8) y x;have u7:=yU (P:=l.prog) (w:=w) (base:=base) f8 (z27 X G p4) y x;have j5:=yU (P:=l.prog) (w:=w) (base:=base) B (z27 X G h3) y x;have m7:=yU (P:=l.prog) (w:=w) (base:=base) S (z27 X G j7) y x;have l6:=yU (P:=l.prog) (w:=w) (base:=base) R (z27 X G k5) y x;have n9:=yU (P:=l.prog) (w:=w) (base:=base) b3 (z27 X G m1) y x;have i7:=ja (P:=l.prog) (w:=w) (base:=base) a0 nb;have k0:=lO H i7;have q7:=aX (P:=l.prog) (w:=w) (base:=base) f0 nb;have v2:=iU g0 ⟨q2,z27 X G r6⟩ k0;have s7:=oA a6 (aw F q7 v2);have q9:=nJ d4 ⟨p1,z27 X G y7⟩ k0;have y8:=kn e5 ⟨l9,z27 X G n1⟩ q7 k0;have p6:=ka e9 nb s7 (oZ d2 nb ⟨l9,z27 X G n1⟩ k0 q9 y8);have w9:=ly d9 p6 (aF (cs:=⟨b,d,Z,a,f,c,p⟩) k6 j9 m0 u7 j5 m7 l6 n9);have CKe:=bW a9 nb ⟨o7,z27 X G u0⟩ w9;have cB:Cls K CB:=⟨s8,z0,poB,y4⟩;have p9:=cL (zk4 (st:=xi) h7 h5 i9) cB l8 CKe;have f1:mg "Book"=some (.ref CB):=z27 X G aCB;have p2:Mk K CB k:=⟨t0,g1,g7,u2⟩;have m3:vH l.prog w K mg base "Book" 9 [] (uJ CB ⟨b,d,Z,a,f,c,p⟩):=⟨CB,k,_,_,_,f1,p2,gL lT,.nil,p9⟩;have CBk0:vH l.prog w K mg base "Book" 9 [.non] (uJ CB ⟨b,d,Z,a,f,c,p⟩):=⟨CB,k,_,_,_,f1,p2,eh lT,.cons rfl .nil,p9⟩;have OW:∀u∈words,xh l.prog w K mg base ((⟨b,d,Z,a,f,c,p⟩:Cs).of u) "word" 1 (pN ((⟨b,d,Z,a,f,c,p⟩:Cs).of u) u):=zg2 (yV C f5 f4 .o rfl) (yV U j0 h6 .o rfl) (yV f8 m6 m4 .o rfl) (yV B f7 h1 .o rfl) (yV S i3 h2 .o rfl) (yV R i4 j1 .o rfl) (yV b3 k4 j2 .o rfl);have OT:∀u∈words,xh l.prog w K mg base ((⟨b,d,Z,a,f,c,p⟩:Cs).of u) "told" 2 (lR ((⟨b,d,Z,a,f,c,p⟩:Cs).of u) u):=zg2 (yS C q r (OW _ (by simp[words]))) (yS U q r (OW _ (by simp[words]))) (yS f8 q r (OW _ (by simp[words]))) (yS B q r (OW _ (by simp[words]))) (yS S q r (OW _ (by simp[words]))) (yS R q r (OW _ (by simp[words]))) (yS b3 q r (OW _ (by simp[words])));have DU:jI K w dU tbU:=⟨_,nU,lU,.cons ⟨w7,⟨_,rfl⟩,rfl⟩ (.cons ⟨hh2,⟨_,rfl⟩,rfl⟩ (.cons ⟨t2,⟨_,rfl⟩,rfl⟩ (.cons ⟨w4,⟨_,rfl⟩,⟨_,rfl⟩⟩ (.cons ⟨y5,⟨_,rfl⟩,⟨_,rfl⟩⟩ (.cons ⟨w3,⟨_,rfl⟩,rfl⟩ (.cons ⟨w1,⟨_,rfl⟩,⟨_,rfl⟩⟩ (.nil))))))),by decide +kernel⟩;have CU:=iH (P:=l.prog) (base:=base) i2 (z27 X G aU) DU;have x2:∀u∈words,xh l.prog w K mg base ((⟨b,d,Z,a,f,c,p⟩:Cs).of u) "tells" 1 (sL ((⟨b,d,Z,a,f,c,p⟩:Cs).of u)):=zg2 (yv C i j) (yv U i j) (yv f8 i j) (yv B i j) (yv S i j) (yv R i j) (yv b3 i j);have OC:∀u∈words,Cls K ((⟨b,d,Z,a,f,c,p⟩:Cs).of u)/\yy K ((⟨b,d,Z,a,f,c,p⟩:Cs).of u) "worth":=zg2 (⟨C.cl,C.nw⟩) (⟨U.cl,U.nw⟩) (⟨f8.cl,f8.nw⟩) (⟨B.cl,B.nw⟩) (⟨S.cl,S.nw⟩) (⟨R.cl,R.nw⟩) (⟨b3.cl,b3.nw⟩);have m8:=kd cB l8 ⟨e8,e7,b2.kp⟩ b2 f6 nb CU OW x2 OC;have MR:=lH cB l8 ⟨e1,e6,b6.kp⟩ b6 g4 OT;have CD:Cal l.prog w K mg base "_law_draw" 1 xC:=zb5 c1 Q.kp c9 (zl5 Q TT);have p7:=gY a4 CD;have CW:=gH a5 CD p7;have s1:=mS D nb CD p7;have CO:=kq E nb CD CW;have CRF:=kj b0 CD s1 CO;have t7:=eA b7 CD;have CN:=lB (P:=l.prog) (w:=w) (base:=base) c8 nb;have CC:Cal l.prog w K mg base "cheapest_first" 3 pP:=iK o5 q0 q3 N J nb hhd KX hbi;have x0:Cal l.prog w K mg base "marked" 4 sZ:=kg f9 nb CC;have v3:=zy4 a1 m8;have n2:=fJ (za7 j4 nb m8 CN v3 x0);have m2:=af k9 CN m8;have l7:=zl0 b1 m2;have u9:=za5 k2 m2 n2;have o0:=zg0 a2 l7 n2;have w8:=zm7 d5 nb o0;have t6:=zB1 a7 nb w8;have u6:=zi5 (P:=l.prog) (w:=w) (base:=base) g9 nb;have y1:=gq (P:=l.prog) (w:=w) (base:=base) d7 nb;have x3:=cX k7 nb t6 u6 y1;have w2:=zc3 j8 m3 MR;have i7:=ja (P:=l.prog) (w:=w) (base:=base) a0 nb;have x7:=eB e4 nb i7 l7;have s0:=iZ h0 nb x7;have x5:=zH3 c4 nb u9;have l3:=zk7 A nb i7;have r0:=zo1 Y nb o0;have q6:=zh8 z nb r0;have x8:=gR g3 nb i7 s0 x5 l3 q6;have t1:=gk b8 nb l7;have x4:=lF (P:=l.prog) (w:=w) (base:=base) O nb;have s9:=iN g5 nb l3 x4 t1;have s3:=aj e2 nb x8 s9;have t3:=ff a8 nb CD CRF m3;have y2:=iW (P:=l.prog) (w:=w) (base:=base) a3 nb;have x1:=gA b9 nb y2;have CNG:=cx (P:=l.prog) (w:=w) (base:=base) M nb e0;have p5:=zd6 c2 nb CNG;have w6:=zj9 d8 nb p5;have r1:=zf7 e3 nb p5 w6 p6;have CSh:=bV d0 nb x1 MR;have v7:=cJ c3 nb r1 m3;exact zy7 i1 nb (zj8 L TT) c6 L.kp c0 CD t3 t7 x3 s3 m2 CSh v7 w2 MR
theorem walk {l:PySem.W.OpenLaw}{q:Program}{loose:List Str}{v:(Str->Option Value)->Heap->Prop}{g:World->Heap->Prop}{d:DefRec}{K:Params->PySem.W.Frag}{c:Addr}(hn:l.most=some 63)(hdf:d.params.defaults=[])
  (p:∀(w:World) (h:Heap),g w h->(K w.params).In h) (e:∀(w:World) (h:Heap),g w h->h.get? yn=some (PySem.W.tabObj #[]))
  (i:∀w:World,(K w.params).lookup yn=none) (b:∀w:World,∃o vs,(K w.params).lookup c=some o/\o.cls=.type "code"/\o.data=.fields vs/\vs[11]?=some (.ref yn))
  (F:∀(w:World) (mg:Str->Option Value) (j:Addr) (h:Heap),(K w.params).In h->h.Ns mainGlobals mg->mg d.name=some (.ref j)->
   ∃fd:FuncData,(∀(s:Shared) (u:Value),BindsTo s fd ⟨[u],[]⟩ [("_law_script",u)])/\∀base:Heap,(K w.params).In base->base.Ns mainGlobals mg->base.BuiltinsAt mg yn->yC l.prog w (K w.params) mg base CX0 13 j fd ["_law_script"] (ml (K w.params))):
  PySem.W.WalkO q loose v g l.row.toRowW d [] (λf vs=>PySem.call f vs):=
 L2.ck (n:=63) (k:=13) (x:="_law_script") (CX:=λ_=>CX0) (sp:=λw=>ml (K w.params)) hn (by decide) hdf ⟨rfl,by decide,by decide,rfl⟩ p e i b F (λ_ H a ns r _ t m=>⟨a,ns,rfl,m,r,⟨#[],t,trivial,λpos cv y=>by cases y⟩,λ_=>rfl⟩) λ_ _ _ _ _ z=>z
end K93
namespace PySem.W.Fast
def tw6855500307777054556:=Nat
def tw13052234364431532170:=Nat
def tw5736089484832820607:=Nat
def tw9154601587028705165:=Nat
def tw1684071113869955048:=Nat
def tw15274552947995733085:=Nat
def tw6040093005916001690:=Nat
def tw6476065610732564282:=Nat
def tw1523870380212780292:=Nat
def tw4891641957835609081:=Nat
def tw14324673388873011522:=Nat
def tw13858256172192008061:=Nat
def tw17210177962346520042:=Nat
def tw1050200335631876038:=Nat
def tw10343998613286972163:=Nat
def tw7618734528171070724:=Nat
def tw6426883999721016595:=Nat
def tw15564122088595058612:=Nat
def tw14355984213911015443:=Nat
def tw6431334659914667114:=Nat
def tw6538406500529169601:=Nat
def tw5354380271585717409:=Nat
def tw11212336694327946076:=Nat
def tw1319681284587891799:=Nat
def tw4448886496618104034:=Nat
def tw847962388364805730:=Nat
def tw4589290466920984343:=Nat
def tw1769033591023428877:=Nat
def tw14572111167834605923:=Nat
def tw12702007221906438357:=Nat
def tw8233194985741766681:=Nat
def tw10225407283114981728:=Nat
def tw16511821193678753782:=Nat
def tw11266834341808222730:=Nat
def tw10286789558587955962:=Nat
def tw552345982848948142:=Nat
def tw12610499145798694168:=Nat
def tw6050676673173877230:=Nat
def tw17114814988683508499:=Nat
def tw3243408461476407681:=Nat
def tw1786641235129920:=Nat
def tw15787163470935612937:=Nat
def tw8737487165518124268:=Nat
def tw15826201289696981:=Nat
def tw17482764858597373481:=Nat
def tw18078904389164922957:=Nat
def tw11044972522390410988:=Nat
def tw6046074484359252816:=Nat
def tw1688885843579858766:=Nat
def tw6814988534210939163:=Nat
def tw2938371731082216243:=Nat
def tw17117799190963696548:=Nat
def tw17326658729141324000:=Nat
def tw11272795444939395980:=Nat
def tw15868117218661247214:=Nat
def tw16435567148306281466:=Nat
def tw14394735134631522400:=Nat
def tw3261733828455464469:=Nat
def tw5223794903125684938:=Nat
def tw15206084621016033504:=Nat
def tw2348666879960101173:=Nat
def tw15436210710482541657:=Nat
def tw9190580486121219416:=Nat
def tw9208198991913904255:=Nat
def tw5631787280180401240:=Nat
def tw4964061696297692328:=Nat
def tw7928297090942254607:=Nat
def tw5513508645534669960:=Nat
def tw4661454693144834686:=Nat
def tw13610823745666694797:=Nat
def tw11848063015830709070:=Nat
def tw17169747524727824283:=Nat
def tw15168744543081168894:=Nat
def tw12681954811262070263:=Nat
def tw7790049559223915598:=Nat
def tw11232259351754471037:=Nat
def tw11960495879797225232:=Nat
def tw13224989428413791973:=Nat
def tw10051503231992784118:=Nat
def tw2784999033779669187:=Nat
def tw16159160202903723261:=Nat
def tw15851009778139187743:=Nat
def tw7603060876710930846:=Nat
def tw2006964186637274276:=Nat
def tw14693320771575994665:=Nat
def tw12213700827311728728:=Nat
def tw15572569570826399355:=Nat
def tw3253611499042035152:=Nat
def tw7209420833355099564:=Nat
def tw26827881940632146:=Nat
def tw4103384681744471695:=Nat
def tw6609645978628873259:=Nat
def tw5271476659343035338:=Nat
def tw7127445694162776228:=Nat
def tw10975094826992663600:=Nat
def tw1919785556247841093:=Nat
def tw15828750181093957291:=Nat
def tw13823627476791455151:=Nat
def tw754305306636930569:=Nat
def tw5217214266558264574:=Nat
def tw10511739710859029662:=Nat
def tw16904035511287937198:=Nat
def tw15816827066833409968:=Nat
def tw9479965958463593164:=Nat
def tw11502680700160279982:=Nat
def tw4683720696993764930:=Nat
def tw8348421341622848334:=Nat
def tw1466608965472023660:=Nat
def tw1535632957896623364:=Nat
def tw8655662339461160201:=Nat
def tw4792832465105962162:=Nat
def tw7160892865233331744:=Nat
def tw9689739384762495980:=Nat
def tw13256955925533677026:=Nat
def tw11706102975746228210:=Nat
def tw7927694686544657656:=Nat
def tw16231781963001327269:=Nat
def tw779459813001341899:=Nat
def tw5640864928800361157:=Nat
def tw9903925021993810176:=Nat
def tw13479183940324391086:=Nat
def tw18333201309054937564:=Nat
def tw5096976123046082386:=Nat
def tw15996635145199112357:=Nat
def tw13704565180955518251:=Nat
def tw16955071498132785393:=Nat
def tw13003103680585534111:=Nat
def tw8022585151687407640:=Nat
def tw14800594314095126318:=Nat
def tw15964436727273190917:=Nat
def tw51506643402332943:=Nat
def tw5328880882935292608:=Nat
def tw10997498203972241644:=Nat
def tw4555524869469854041:=Nat
def tw1407436762658316684:=Nat
def tw12651711192330295467:=Nat
def tw9779105958615065452:=Nat
def tw11912731954433186114:=Nat
def tw8755047846934850047:=Nat
def tw17667114698518537491:=Nat
def tw9415893228409634155:=Nat
def tw3045881673720750574:=Nat
def tw9929706232883061249:=Nat
def tw886519255927791221:=Nat
def tw506636649675975634:=Nat
def tw276903802480359411:=Nat
def tw4498715564074895753:=Nat
def tw6759921433714403126:=Nat
def tw16976243317541093571:=Nat
def tw1264111477719820617:=Nat
def tw10412127494557181686:=Nat
def tw2204443030725012818:=Nat
def tw8650115402619612098:=Nat
def tw11043308793152613520:=Nat
def tw17980768476905104839:=Nat
def tw11788009849026732170:=Nat
def tw389597915539502556:=Nat
def tw7320102059335892229:=Nat
def tw3148498455722570489:=Nat
def tw7029802831364581123:=Nat
def tw13416237626412278175:=Nat
def tw6130368505427757474:=Nat
def tw10919885386559196180:=Nat
def tw8775763111383819029:=Nat
def tw16376666599757873552:=Nat
def tw7746297614491927675:=Nat
def tw12527405689056458033:=Nat
def tw11949650298425559423:=Nat
def tw4656822813279443859:=Nat
def tw16271699369114215540:=Nat
def tw16597669756662328147:=Nat
def tw8560205970147259097:=Nat
def tw16395814129657431202:=Nat
def tw14219267858474182710:=Nat
def tw1554247067876635053:=Nat
def tw14195742341838787699:=Nat
def tw15527176183919237656:=Nat
def tw16465815978529276051:=Nat
def tw13681344537306126170:=Nat
def tw13371465593831150955:=Nat
def tw2107298043611866424:=Nat
def tw14474067839770221880:=Nat
def tw2350933757093791470:=Nat
def tw13098420730059603213:=Nat
def tw13331600622188551719:=Nat
def tw1773698158477333918:=Nat
def tw9185424952257152217:=Nat
def tw7234607208866849167:=Nat
def tw11325871060189453603:=Nat
def tw3347692594287337961:=Nat
def tw8889149849388471999:=Nat
def tw15465633910416677272:=Nat
def tw16267993960572695758:=Nat
def tw7436048264619329881:=Nat
def tw13060812547528384164:=Nat
def tw8533575255920846488:=Nat
def tw8622007055623104728:=Nat
def tw2406252032710517127:=Nat
def tw9963575288920562975:=Nat
def tw11287508404838804037:=Nat
def tw1348100571722860464:=Nat
def tw11817492148324078383:=Nat
def tw11063938876441277631:=Nat
def tw2750874158783704582:=Nat
def tw14865952873670754451:=Nat
def tw4817722610352045078:=Nat
def tw15436443500852085006:=Nat
def tw6960926008967208200:=Nat
def tw4361506347810252785:=Nat
def tw10308051965155504399:=Nat
def tw18433938705470893048:=Nat
def tw3702042383871027450:=Nat
def tw282039482518429375:=Nat
def tw50077370355227008:=Nat
def tw15493621440446290467:=Nat
def tw15642287434526594244:=Nat
def tw7336104447916024986:=Nat
def tw13984725396054278011:=Nat
def tw9090164901578925182:=Nat
def tw3076217327976886017:=Nat
def tw1103038401868510840:=Nat
def tw13563726124244333159:=Nat
def tw14829987558606953850:=Nat
def tw10098186908803470814:=Nat
def tw16329746156290357606:=Nat
def tw16740945950537514976:=Nat
def tw1331506357598407094:=Nat
def tw17571629252760672467:=Nat
def tw51569358091740192:=Nat
def tw18198217466728608201:=Nat
def tw6839005577355854171:=Nat
def tw16003841965272730500:=Nat
def tw13724285049178440329:=Nat
def tw14936699300362193024:=Nat
def tw16168643228676690931:=Nat
def tw1220190509618097943:=Nat
def tw11609273538946451858:=Nat
def tw6157945503817172295:=Nat
def tw17653211207192014722:=Nat
def tw9720689236845249596:=Nat
def tw7827709986172596774:=Nat
def tw16810751264474853543:=Nat
def tw4534172933842086751:=Nat
def tw5283940236643458157:=Nat
def tw150323265093616186:=Nat
def tw18254252960943293568:=Nat
def tw3218129080460168767:=Nat
def tw1227971219710211821:=Nat
def tw3838010048992844842:=Nat
def tw7098136388881811576:=Nat
def tw15322778490187085495:=Nat
def tw3422704163146504586:=Nat
def tw2679327012892259804:=Nat
def tw9748029632860595084:=Nat
def tw7920027089916653530:=Nat
def tw17961911532009286911:=Nat
def tw13188997402050314438:=Nat
def tw4055284515143740700:=Nat
def tw12134506808956330431:=Nat
def tw11851141723196730695:=Nat
def tw6865937099077561959:=Nat
def tw5658448150792783506:=Nat
def tw15996339950672267594:=Nat
def tw3219336079274196811:=Nat
def tw13797439723805300019:=Nat
def tw2332964153221882760:=Nat
def tw10797444613900877029:=Nat
def tw12641256678132225079:=Nat
def tw1983716143118843245:=Nat
def tw13477152121242601436:=Nat
def tw9082532263288837389:=Nat
def tw15685639294015848765:=Nat
def tw17553753210603943400:=Nat
def tw5827574722473630650:=Nat
def tw4604012328864291091:=Nat
def tw16558269892366250732:=Nat
def tw11723642925079536704:=Nat
def tw2823393196451357133:=Nat
def tw5364318499400694922:=Nat
def tw14374844202147655264:=Nat
def tw6299621675894652394:=Nat
def tw4206301616324217707:=Nat
def tw14196006230212218171:=Nat
def tw17848287391540079254:=Nat
def tw5595173493883212404:=Nat
def tw14188497514468924689:=Nat
def tw4540713865136560921:=Nat
def tw6965807772373721968:=Nat
def tw13431949058118949724:=Nat
def tw6149337069046219266:=Nat
def tw4924191889168852767:=Nat
def tw8716916764569116835:=Nat
def tw3514381464774322970:=Nat
def tw8494158428308208577:=Nat
def tw3024666214370093505:=Nat
def tw239108907037285840:=Nat
def tw732801971194773563:=Nat
def tw5041530494186636740:=Nat
def tw2306133381371040664:=Nat
def tw3150516960847852432:=Nat
def tw7005084026061621361:=Nat
def tw8644524675960116900:=Nat
def tw6991437079358866144:=Nat
def tw18386314191788193459:=Nat
def tw15038437842402449939:=Nat
def tw14570416600399041876:=Nat
def tw1893725505437476900:=Nat
def tw17667781969480988119:=Nat
def tw7066870005370503485:=Nat
def tw9008274343998202330:=Nat
def tw6909787078627165341:=Nat
end PySem.W.Fast
open PySem PySem.W PyProof.Rows
set_option maxRecDepth 100000 in
theorem PySem.Challenge.cw_stayprice_k93_whole_from_text_to_paper_holds : PySem.Challenge.rw_stayprice_k93_whole_from_text_to_paper.Holds := by
 w_on;o_law;k_head;(case hw=>w_witness2)
 k_fill
 refine K93.walk (l:=PySem.Challenge.rw_stayprice_k93_whole_from_text_to_paper) (c:=(491:Nat)) rfl rfl (λw h Y=>PySem.W.km_in_of Y) (λw h Y=>PySem.W.km_tabs_of Y _ (zY0.mpr rfl)) ?hno ?htab ?hF
 case hno=>intro w;kernel_rfl
 case htab=>intro w;exact⟨_,_,by k_is,rfl,rfl,rfl⟩
 case hF=>
  intro w mg d h a G b
  refine' K93.all_mk a G b (K93.mkG a G ?_ (K93.mkF ?_ ?_ ?_)) (K93.mkG a G ?_ (K93.mkF ?_ ?_ ?_)) (K93.mkG a G ?_ (K93.mkF ?_ ?_ ?_)) (K93.mkG a G ?_ (K93.mkF ?_ ?_ ?_)) (K93.mkG a G ?_ (K93.mkF ?_ ?_ ?_)) (K93.mkG a G ?_ (K93.mkF ?_ ?_ ?_)) (K93.mkG a G ?_ (K93.mkF ?_ ?_ ?_)) (K93.mkG a G ?_ (K93.mkF ?_ ?_ ?_)) (K93.mkG a G ?_ (K93.mkF ?_ ?_ ?_)) (K93.mkG a G ?_ (K93.mkF ?_ ?_ ?_)) (K93.mkG a G ?_ (K93.mkF ?_ ?_ ?_)) (K93.mkG a G ?_ (K93.mkF ?_ ?_ ?_)) (K93.mkG a G ?_ (K93.mkF ?_ ?_ ?_)) (K93.mkG a G ?_ (K93.mkF ?_ ?_ ?_)) (K93.mkG a G ?_ (K93.mkF ?_ ?_ ?_)) (K93.mkG a G ?_ (K93.mkF ?_ ?_ ?_)) (K93.mkG a G ?_ (K93.mkF ?_ ?_ ?_)) (K93.mkG a G ?_ (K93.mkF ?_ ?_ ?_)) (K93.mkG a G ?_ (K93.mkF ?_ ?_ ?_)) (K93.mkG a G ?_ (K93.mkF ?_ ?_ ?_)) (K93.mkG a G ?_ (K93.mkF ?_ ?_ ?_)) (K93.mkG a G ?_ (K93.mkF ?_ ?_ ?_)) (K93.mkG a G ?_ (K93.mkF ?_ ?_ ?_)) (K93.mkG a G ?_ (K93.mkF ?_ ?_ ?_)) ?_ ?_ ?_ ?_ (K93.mkG a G ?_ (K93.mkF ?_ ?_ ?_)) (K93.mkG a G ?_ (K93.mkF ?_ ?_ ?_)) (K93.mkG a G ?_ (K93.mkF ?_ ?_ ?_)) (K93.mkG a G ?_ (K93.mkF ?_ ?_ ?_)) (K93.mkG a G ?_ (K93.mkF ?_ ?_ ?_)) (K93.mkG a G ?_ (K93.mkF ?_ ?_ ?_)) (K93.mkG a G ?_ (K93.mkF ?_ ?_ ?_)) (K93.mkG a G ?_ (K93.mkF ?_ ?_ ?_)) (K93.mkG a G ?_ (K93.mkF ?_ ?_ ?_)) (K93.mkG a G ?_ (K93.mkF ?_ ?_ ?_)) (K93.mkG a G ?_ (K93.mkF ?_ ?_ ?_)) (K93.mkG a G ?_ (K93.mkF ?_ ?_ ?_)) (K93.mkG a G ?_ (K93.mkF ?_ ?_ ?_)) (K93.mkG a G ?_ (K93.mkF ?_ ?_ ?_)) (K93.mkG a G ?_ (K93.mkF ?_ ?_ ?_)) (K93.mkG a G ?_ (K93.mkF ?_ ?_ ?_)) (K93.mkG a G ?_ (K93.mkF ?_ ?_ ?_)) (K93.mkG a G ?_ (K93.mkF ?_ ?_ ?_)) (K93.mkG a G ?_ (K93.mkF ?_ ?_ ?_)) (K93.mkG a G ?_ (K93.mkF ?_ ?_ ?_)) (K93.mkG a G ?_ (K93.mkF ?_ ?_ ?_)) (K93.mkG a G ?_ (K93.mkF ?_ ?_ ?_)) (K93.mkG a G ?_ (K93.mkF ?_ ?_ ?_)) (K93.mkG a G ?_ (K93.mkF ?_ ?_ ?_)) (K93.mkG a G ?_ (K93.mkF ?_ ?_ ?_)) (K93.mkG a G ?_ (K93.mkF ?_ ?_ ?_)) (K93.mkG a G ?_ (K93.mkF ?_ ?_ ?_)) (K93.mkG a G ?_ (K93.mkF ?_ ?_ ?_)) (K93.mkG a G ?_ (K93.mkF ?_ ?_ ?_)) (K93.mkG a G ?_ (K93.mkF ?_ ?_ ?_)) (K93.mkG a G ?_ (K93.mkF ?_ ?_ ?_)) (K93.mkG a G ?_ (K93.mkF ?_ ?_ ?_)) ?_ ?_ ?_ ?_ ?_ ?_ ?_ ?_ ?_ ?_ ?_ (K93.mkR ?_ ?_ ?_ ?_ ?_ ?_ ?_ ?_ ?_ ?_ ?_ ?_ ?_ ?_ ?_ ?_ ?_ ?_ ?_ ?_) (K93.mkR ?_ ?_ ?_ ?_ ?_ ?_ ?_ ?_ ?_ ?_ ?_ ?_ ?_ ?_ ?_ ?_ ?_ ?_ ?_ ?_) (K93.mkR ?_ ?_ ?_ ?_ ?_ ?_ ?_ ?_ ?_ ?_ ?_ ?_ ?_ ?_ ?_ ?_ ?_ ?_ ?_ ?_) (K93.mkR ?_ ?_ ?_ ?_ ?_ ?_ ?_ ?_ ?_ ?_ ?_ ?_ ?_ ?_ ?_ ?_ ?_ ?_ ?_ ?_) (K93.mkR ?_ ?_ ?_ ?_ ?_ ?_ ?_ ?_ ?_ ?_ ?_ ?_ ?_ ?_ ?_ ?_ ?_ ?_ ?_ ?_) (K93.mkR ?_ ?_ ?_ ?_ ?_ ?_ ?_ ?_ ?_ ?_ ?_ ?_ ?_ ?_ ?_ ?_ ?_ ?_ ?_ ?_) (K93.mkR ?_ ?_ ?_ ?_ ?_ ?_ ?_ ?_ ?_ ?_ ?_ ?_ ?_ ?_ ?_ ?_ ?_ ?_ ?_ ?_) (K93.mkF ?_ ?_ ?_) (K93.mkF ?_ ?_ ?_) (K93.mkF ?_ ?_ ?_) (K93.mkF ?_ ?_ ?_) (K93.mkF ?_ ?_ ?_) (K93.mkF ?_ ?_ ?_) (K93.mkF ?_ ?_ ?_) (K93.mkF ?_ ?_ ?_) (K93.mkF ?_ ?_ ?_) (K93.mkF ?_ ?_ ?_) ?_ ?_ ?_ ?_ ?_ ?_ ?_ ?_ ?_ (K93.mkF ?_ ?_ ?_) ?_ ?_ (K93.mkF ?_ ?_ ?_) ?_ ?_ ?_ ?_ ?_ ?_ ?_ ?_ ?_ ?_ ?_ ?_ ?_ ?_ ?_ ?_ ?_ ?_ ?_ ?_ ?_ ?_ ?_ ?_ ?_ ?_ ?_ ?_ ?_ ?_ ?_ ?_ ?_ ?_ ?_ ?_ ?_ ?_ ?_ ?_ ?_
  all_goals try (show _=_;first|k_is|kernel_rfl)
