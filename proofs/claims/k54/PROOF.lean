import PyProof.Rows.All
import Wide.All
import OpenK.AllK
import Wide.FinOn
import Lean
import PyProof.EqAt
import PyProof.EqKinds
import PyProof.TupleCall
import PySem.Challenge.RW_stayprice_k54_looker_at_papers
set_option compiler.extract_closed false
set_option bootstrap.genMatcherCode false
open PySem renaming PyData->Aa,Value->Ab,Shared->Ad,Addr->Ae,starEach->Af,Program->Ag,mainGlobals->Ah,World->Ai,wpAny->Aj,Expr->Ak,model->Al,Around->Am,Stmt->An,Heap->Ao,FuncData->Ap,Scope->Aq,Env->Ar
open PySem.W renaming Frag->Ac
set_option maxHeartbeats 0
set_option linter.all false
set_option Elab.async false
def zZ2:=@List.length_map
def zZ3:=@PySem.wpAny_bind
def zZ4:=@PySem.Heap.get?_push_of_some
def zZ5:=@List.getElem?_eq_getElem
def zZ6:=@List.getElem?_eq_some_iff
def zZ7:=@Nat.lt_of_lt_of_le
def zZ8:=@Nat.le_refl
def zZ9:=@List.mem_cons
def z00:=@List.getD_eq_getElem?_getD
def z01:=@List.mem_cons_of_mem
def z02:=@PySem.wpAny_pure
def z03:=@List.mem_cons_self
def z04:=@List.getElem?_map
def z05:=@Nat.le_trans
def z06:=@List.mem_singleton
def z07:=@PySem.Heap.lt_size
def z08:=@PySem.Heap.get?_push_size
def z09:=@List.size_toArray
def z21:=@Nat.zero_le
def z22:=@Option.map_eq_some_iff
def z23:=@Nat.le_add_right
def z24:=@List.length_append
def z25:=@Nat.le_of_ble_eq_true
def z26:=@Nat.le_of_eq
def z27:=@List.map_cons
def z28:=@List.length_cons
def z29:=@Nat.lt_of_le_of_lt
def z30:=@Nat.ne_of_lt
def z31:=@List.not_mem_nil
def z32:=@Bool.false_ne_true
def z33:=@List.mem_map
def z34:=@Option.some.inj
def z35:=@PySem.Heap.get?_update_other
def z36:=@Bool.and_eq_true
def z37:=@PySem.W.mg_none_of
def z38:=@decide_eq_false
def z39:=@decide_eq_true
def z40:=@Nat.add_lt_add_left
def z41:=@of_decide_eq_true
def z42:=@Ne.symm
def z43:=@List.mem_append_right
def z44:=@List.mem_append
def z45:=@PyProof.Rows.callWith_type1
def z46:=@Bool.false_and
def z47:=@List.mem_of_getElem?
def z48:=@Bool.true_and
def z49:=@List.length_take
def z50:=@PySem.wpAny_truthy_bool
def z51:=@List.nil_append
def z52:=@Bool.false_eq_true
def z53:=@List.map_map
def z54:=@List.map_append
def z55:=@decide_eq_true_eq
def z56:=@Nat.lt_irrefl
def z57:=@or_false
def z58:=@Nat.le_of_lt
def z59:=@PySem.W.mg_of
def z60:=@PySem.wpAny_mono
def z61:=@Bool.eq_iff_iff
def z62:=@List.length_set
def z63:=@List.length_reverse
def z64:=@Nat.lt_succ_self
def z65:=@List.lookup_cons
def z66:=@Int.eq_ofNat_of_zero_le
def z67:=@Int.toNat_natCast
def z68:=@List.getElem?_set_ne
def z69:=@List.getElem_mem
def z70:=@PySem.mem_of_lookup
def z71:=@PySem.sizeLine_eq
def z72:=@PySem.wpAny_holding
def z73:=@List.append_nil
def z74:=@List.pairwise_cons
def z75:=@List.take_add_one
def z76:=@PySem.wpAny_seqItems
def z77:=@PySem.W.kia_one
def z78:=@Nat.lt_add_of_pos_right
def z79:=@List.all_eq_true
def z80:=@List.take_length
def z81:=@PySem.Heap.size_push
def z82:=@PySem.F.plain_min_loop
def z83:=@List.getElem?_append_left
def z84:=@List.find?_cons
def z85:=@PySem.F.plain_extend_loop
def z86:=@PySem.F.slot_zip_next
def z87:=@if_false
def z88:=@List.length_drop
def z89:=@PySem.wpAny_field
def z90:=@Int.le_refl
def z91:=@List.mem_of_mem_take
def z92:=@decide_eq_false_iff_not
def z93:=@PySem.wpAny_pyIter_list
def z94:=@Nat.le_of_lt_succ
def z95:=@PySem.wpAny_updateSeq
def z96:=@PySem.wpAny_nextOf_list_item
def z97:=@List.any_cons
def z98:=@Nat.le_of_not_lt
def z99:=@List.drop_eq_getElem_cons
def ya0:=@List.pairwise_iff_getElem
def ya1:=@Nat.le_succ
def ya2:=@Nat.le_antisymm
def ya3:=@PyProof.Rows.get?_update_seq
def ya4:=@Bool.and_eq_true_iff
def ya5:=@List.reverse_cons
def ya6:=@List.getElem?_replicate
def ya7:=@beq_eq_false_iff_ne
def ya8:=@List.filterMap_cons
def ya9:=@List.getElem?_set_self
def yb0:=@PySem.wpAny_letGo
def yb1:=@Nat.ne_of_gt
def yb2:=@Int.lt_of_lt_of_le
def yb3:=@PySem.wpAny_passesOwn
def yb4:=@Bool.or_eq_true
def yb5:=@List.getElem?_eq_none
def yb6:=@List.getElem?_append_right
def yb7:=@PySem.plainId_quiet
def yb8:=@PySem.wpAny_newObj_type
def yb9:=@List.mem_append_left
def yc0:=@PySem.Around.under_plainId
def yc1:=@if_true
def yc2:=@Nat.lt_or_ge
def yc3:=@PyProof.Rows.slot_tuple_getitem
def yc4:=@PySem.wpAny_callSpecial?_slot
def yc5:=@PySem.wpAny_Call_Name_kw
def yc6:=@PySem.wpAny_ite_split
def yc7:=@PySem.PassesOwn.never
def yc8:=@Int.emod_lt_of_pos
def yc9:=@of_decide_eq_false
def yd0:=@List.mem_range
def yd1:=@Int.le_of_lt
def yd2:=@List.map_nil
def yd3:=@PySem.Heap.get?_update_self
def yd4:=@PySem.boot_len
def yd5:=@List.getElem?_toArray
def yd6:=@PySem.builtinLookup_eq_fast
def yd7:=@List.all_map
def yd8:=@Bool.and_false
def yd9:=@PySem.wpAny_call_entry
def ye0:=@List.drop_length
def ye1:=@List.filter_cons
def ye2:=@List.mem_iff_getElem
def ye3:=@Bool.or_false
def ye4:=@List.all_cons
def ye5:=@List.sum_cons
def ye6:=@Array.length_toList
def ye7:=@PySem.Heap.SameBut.update
def ye8:=@List.take_succ_cons
def ye9:=@Array.Perm.refl
def yf0:=@PySem.wpAny_specialOf
def yf1:=@Nat.div_add_mod
def yf2:=@PySem.codeAny_builtin
def yf3:=@List.length_nil
def yf4:=@List.foldl_cons
def yf5:=@Int.emod_nonneg
def yf6:=@Option.isSome_iff_exists
def yf7:=@Int.natCast_nonneg
def yf8:=@Nat.succ_pos
def yf9:=@PySem.wpAny_setField_rec
def yg0:=@PySem.tupleKind_room_in1
def yg1:=@List.getElem?_cons_succ
def yg2:=@PySem.F.args_zip_next_1
def yg3:=@List.any_eq_false
def yg4:=@Nat.lt_succ_of_lt
def yg5:=@Bool.not_eq_true'
def yg6:=@PySem.Calls.callWith_builtin
def yg7:=@PySem.F.entry_zip_next
def yg8:=@PySem.F.entry_min_loop
def yg9:=@List.take_of_length_le
def yh0:=@List.map_take
def yh1:=@PySem.strLen_append
def yh2:=@Int.lt_irrefl
def yh3:=@Nat.min_le_right
def yh4:=@List.cons_append
def yh5:=@List.any_eq_true
def yh6:=@List.mem_reverse
def yh7:=@PySem.W.methodCall_KW
def yh8:=@List.length_singleton
def yh9:=@List.getElem?_reverse
def yi0:=@Nat.lt_trans
def yi1:=@List.mem_filter
def yi2:=@PySem.wpAny_execs_nil
def yi3:=@Int.ne_of_gt
def yi4:=@PySem.codeAny_mono
def yi5:=@List.nodup_cons
def yi6:=@PySem.wpAny_loadPart'
def yi7:=@Int.not_le
def yi8:=@List.forIn_cons
def yi9:=@Nat.zero_add
def yj0:=@Nat.mul_le_mul_right
def yj1:=@PySem.typeLookup_type
def yj2:=@Int.natCast_add
def yj3:=@Nat.min_eq_left
def yj4:=@List.mem_of_mem_drop
def yj5:=@List.any_map
def yj6:=@PySem.W.plainGet_of
def yj7:=@List.mem_filterMap
def yj8:=@PySem.W.callWith_K
def yj9:=@List.filterMap_map
def yk0:=@List.forIn_toArray
def yk1:=@List.getElem?_drop
def yk2:=@List.map_drop
def yk3:=@Bool.false_or
section
variable {a b c d e f g A B C D E F G H I J K L:Nat}{p q r s t u v w P Q R S T U V W:Int}
def om0 (h:a<b):b-(a+1)<b-a:=by lia
def om5 (h:0=a-b)(i:b<=a):b=a:=by lia
def om6 (h:a+1=b-c):c<b:=by omega
def om7 (h:a+b=c-d):a=c-(d+b):=by omega
def om9 (h:(a:Int)<(b:Int)):a<b:=by omega
def zW5 (h:a+64<b):a+1<b:=(yi0 (z40 (by decide) a) h)
def zS0 (h:a<=1000):((min b a:Nat):Int)<=1000:=by lia
def ka (h:a<64):a<=16777216:=(z58 (yi0 h (by decide:(64:Nat)<(16777216:Nat))))
def zY9 :p+q=q+p:=by lia
def zX6 :p+(q+r)=p+q+r:=by lia
def zW3 (h:p<=q)(i:r<=s):p+r<=s+q:=by lia
def zN2 (h:p<=q+(a:Int)):p<=q+((a+b:Nat):Int):=by lia
def zN5 (h:p<=q+((a+1:Nat):Int))(i:¬p<=q+(a:Int)):p=q+1+(a:Int):=by lia
def zY5 :p+1+(a:Int)<=p+((a+1:Nat):Int):=by lia
def zY1 (h:p<=q+r):p<q+1+r:=by lia
def zX1 (h:a+b<=c)(i:d<b):a+d<c:=by lia
def zV1 (h:(a:Int)<=(b:Int)):a<=b:=by lia
def zU7 :p+q-p<=q:=by lia
def zX4 (h:(a:Int)=(b:Int)):a=b:=by lia
def zU4 (h:a<=b+c)(i:b<=d+e):a<=d+(c+e):=by lia
def zT1 (h:a<=b)(i:c<=b):max a c<=b:=by lia
def zx3 (h:a<=7):a+1<=8:=(z29 h (by decide:(7:Nat)<(8:Nat)))
def zz0 (h:a+b<=c)(i:d<=e+b)(j:e<=a):d<=c:=by lia
def zS9 (h:a+1+1<2):False:=by lia
def zu2 (h:2<=a)(i:a=b):0<b:=(zZ7 (by decide:(0:Nat)<(2:Nat)) (z05 h (z26 i)))
def iJ (h:a+(b+c)<=d):a+c+b<=d:=by lia
def aI (h:a<b+1)(i:¬a=b):a<b:=by lia
def zP7 :a+(b+c)=a+c+b:=by lia
def zQ9 (h:p<=q):p+(((q-p).toNat:Nat):Int)=q:=by omega
def zy0 (h:(a:Int)=(b:Int)):b=a:=by lia
def zw5 (h:a+max b c<d):a+c<d:=by lia
def zT0 (h:a+b+c=d+b+e):a+c=d+e:=by lia
def zO3 (h:a+b=a+c):¬c<b:=by lia
def zP1 (h:0+a=b+1+c):c<a:=by lia
def zN0 (h:a+b=0+c):¬c<b:=by lia
def zT6 (h:a=b)(i:c=d):b+c=d+a:=by lia
def zt5 (h:a-b=0)(i:b<=a):b=a:=by omega
def zv7 (h:a-b=c+1):b<a:=by omega
def bz (h:a-b=c+d):a-(b+d)=c:=by omega
def rP (h:a<b):b-1<b:=by lia
def zR2 (h:a<=b):(a:Int)-(b:Int)<=0:=by lia
def zL7 (h:a=16777216)(i:b<=a):¬(b:Int)≥2^63:=by lia
def zL8 (h:a=16777216)(i:b<=a):b<=1099511627776:=(z58 (z29 i (z29 (z26 h) (by decide:(16777216:Nat)<(1099511627776:Nat)))))
def de (h:a=16777216)(i:b=c)(j:b<=a):(c:Int)<2^63:=by lia
def zt7 (h:a+3*(b+c)+d<e):a+c+3*b+d<e:=by lia
def zv2 (h:a+16*(b+c)+200<d):a+c+16*b+200<d:=by lia
def zS7 (h:a=b)(i:b<=c):a+(c-a)=c:=by lia
def dD (h:a<2^63)(i:p<(b:Int))(j:b<=a):p<2^63:=by lia
def ze9 (h:(-(a:Int))<=p)(i:a<=b)(j:b<2^63):(-(2^63))<=p:=by lia
def zy1 (h:p<0):max 0 (min (p+q) q)=(((p+q).toNat:Nat):Int):=by lia
def zA0 :max 0 (min p (a:Int))=((min p.toNat a:Nat):Int):=by lia
def zx2 (h:a<2^63)(i:b=c)(j:b<=a):(c:Int)<2^63:=by lia
def zS1 (h:a+b<=c)(i:a=d)(j:b=e):d+e<=c:=by lia
def zx7 (h:a<=b)(i:¬a=b):a<=b-1:=by lia
def zw2 (h:a<1)(i:b<=a):b=0:=by lia
def zx5 (h:a<1):a=0:=by lia
def iC (h:a<=b+c+d):a<=b+(d+c):=by lia
def zu5 (h:a<b):b<=b-c+b-1-a+c:=by omega
def zw8 (h:a<b)(i:c<=a):c+b-1-a<b:=by omega
def zx8 (h:a-b<=c):a<=c+b:=by lia
def zv0 :¬(a<=b/\b<b):=by lia
def qH (h:a+1<=b+(0+1))(i:b<a+1):b=a:=by omega
def zw1 (h:a+b<=c+(d+b)):a<=c+d:=by lia
def zy9 :a<=a-b+(c+b):=by omega
def zs8 (h:a<b):0+b-1-c<b:=by omega
def bu (h:a<=b+(c-b))(i:b<=c):a<=c:=by omega
def zs9 (h:a<b):a<=b-1:=by omega
def zy2 (h:a>1):a-1<a:=by lia
def jr (h:a<b)(i:b<=c)(j:d<=1+(b-1)):d<=c:=by lia
def zx0 (h:a<b+1)(i:c<a):a-1<b:=by lia
def zS8 (h:a<=1000):a<=16777216:=(z58 (z29 h (by decide:(1000:Nat)<(16777216:Nat))))
def br :a<a+5\/a+5<a:=(.inl (z78 (by decide)))
def zz5 :a+4<a\/a<a+4:=(.inr (z78 (by decide)))
def aH :a+4<a+5\/a+5<a+4:=(.inl (z40 (by decide) a))
def du :a+1<a+5\/a+5<a+1:=(.inl (z40 (by decide) a))
def aT :a+1<a+4\/a+4<a+1:=(.inl (z40 (by decide) a))
def zw7 :a+4<a+1\/a+1<a+4:=(.inr (z40 (by decide) a))
def zd6 :a+2<a+5\/a+5<a+2:=(.inl (z40 (by decide) a))
def zA4 :a+2<a\/a<a+2:=(.inr (z78 (by decide)))
def ak :a+2<a+4\/a+4<a+2:=(.inl (z40 (by decide) a))
def zu7 :a+2<a+1\/a+1<a+2:=(.inr (z40 (by decide) a))
def zv3 :a+4<a+2\/a+2<a+4:=(.inr (z40 (by decide) a))
def dE :a+5<a+4\/a+4<a+5:=(.inr (z40 (by decide) a))
def zw4 :a+5<a+2\/a+2<a+5:=(.inr (z40 (by decide) a))
def zt2 :a+5<a+1\/a+1<a+5:=(.inr (z40 (by decide) a))
def zA3 :a+5<a\/a<a+5:=(.inr (z78 (by decide)))
def bK :a<a+4\/a+4<a:=(.inl (z78 (by decide)))
def zu8 :a<a+2\/a+2<a:=(.inl (z78 (by decide)))
def zu4 :a+1<a+2\/a+2<a+1:=(.inl (z40 (by decide) a))
def dN :a+3<a+5\/a+5<a+3:=(.inl (z40 (by decide) a))
def zz4 :a+3<a\/a<a+3:=(.inr (z78 (by decide)))
def zv6 :a+3<a+1\/a+1<a+3:=(.inr (z40 (by decide) a))
def zv8 :a+3<a+2\/a+2<a+3:=(.inr (z40 (by decide) a))
def zx9 (h:(-(2^62))<=p):(-(2^63))<=p:=by lia
def zu0 (h:p<2^62):p<2^63:=by lia
end
set_option maxRecDepth 100000
noncomputable section
namespace L2
open PySem PySem.Spec PyProof.Rows
abbrev Key :=Sum Int Str
noncomputable def qX :Key->Ab->Bool
 |.inl k,v=>Value.isInt k v
 |.inr x,v=>Value.isStrOf x v
noncomputable def zV9 (w:Ai):Key->Int
 |.inl k=>hashInt k
 |.inr x=>hashStr w x
theorem zZ :∀{k:Key}{v:Ab},qX k v=true->(∃i t,k=Sum.inl i/\v=Value.int i t)\/(∃x t,k=Sum.inr x/\v=Value.str x t)
 |.inl i,v,h=>by
  obtain⟨t,e⟩:=Value.isInt_shape h;exact .inl ⟨i,t,rfl,e⟩
 |.inr x,v,h=>by
  obtain⟨t,e⟩:=Value.isStrOf_shape h;exact .inr ⟨x,t,rfl,e⟩
def eB (i:Int)(t:Tok):qX (.inl i) (.int i t)=true:=by simp[qX,Value.isInt]
def fN (x:Str)(t:Tok):qX (.inr x) (.str x t)=true:=by simp[qX,Value.isStrOf]
def zD5 (a b:Int):decide ((Sum.inl a:Key)=Sum.inl b)=(a == b):=by
 by_cases e:a=b
 .subst e;simp
 .have h:¬(Sum.inl a:Key)=Sum.inl b:=λq=>e (Sum.inl.inj q);rw[z38 h];exact(ya7.mpr e).symm
def zG4 (a b:Str):decide ((Sum.inr a:Key)=Sum.inr b)=decide (a=b):=by
 by_cases e:a=b
 .subst e;simp
 .have h:¬(Sum.inr a:Key)=Sum.inr b:=λq=>e (Sum.inr.inj q);rw[z38 h,z38 e]
def zC9 (a:Int)(b:Str):decide ((Sum.inl a:Key)=Sum.inr b)=false:=z38 (λq=>nomatch q)
def zD6 (a:Str)(b:Int):decide ((Sum.inr a:Key)=Sum.inl b)=false:=z38 (λq=>nomatch q)
noncomputable def yb (prog:Ag)(w:Ai):PySem.KeyKind prog w Key where
 is:=qX
 hash:=zV9 w
 inj:=λv a b ha hb=>by
  rcases zZ ha with⟨i,t,rfl,rfl⟩|⟨x,t,rfl,rfl⟩
  .rcases zZ hb with⟨j,u,rfl,e⟩|⟨y,u,rfl,e⟩
   .injection e with e1 _;rw[e1]
   .exact nomatch e
  .rcases zZ hb with⟨j,u,rfl,e⟩|⟨y,u,rfl,e⟩
   .exact nomatch e
   .injection e with e1 _;rw[e1]
 byValue:=λk v h=>by
  rcases zZ h with⟨i,t,rfl,rfl⟩|⟨x,t,rfl,rfl⟩<;>rfl
 pyHash:=λc h=>by
  rcases zZ c with⟨i,t,rfl,rfl⟩|⟨x,t,rfl,rfl⟩
  .exact wpAny_pyHash_int h
  .exact wpAny_pyHash_str h
 eqBool:=λd c h=>by
  rcases zZ d with⟨i,t,rfl,rfl⟩|⟨x,t,rfl,rfl⟩
  .rcases zZ c with⟨j,u,rfl,rfl⟩|⟨y,u,rfl,rfl⟩
   .rw[zD5]at h;exact wpAny_eqBool_int h
   .rw[zC9]at h;exact SeqAt.EqAt.int_str i t y u _ _ _ _ h
  .rcases zZ c with⟨j,u,rfl,rfl⟩|⟨y,u,rfl,rfl⟩
   .rw[zD6]at h;exact SeqAt.EqAt.str_int x t j u _ _ _ _ h
   .rw[zG4]at h;exact wpAny_eqBool_str h
 «strs»:=λk x t v h=>by
  rcases zZ h with⟨i,u,rfl,e⟩|⟨y,u,rfl,e⟩
  .exact nomatch e
  .injection e with e1 _;subst e1;cases v<;>rfl
def mq (prog:Ag)(w:Ai)(i:Int)(t:Tok):(yb prog w).is (.inl i) (.int i t)=true:=eB i t
def ma (prog:Ag)(w:Ai)(x:Str)(t:Tok):(yb prog w).is (.inr x) (.str x t)=true:=fN x t
inductive V where
 |non|bl (b:Bool)|int (i:Int)|str (x:Str)|byt (b:Array UInt8)|flt (b:UInt64)|ref (a:Ae)|ty (n:String)
 deriving DecidableEq
def RelV :V->Ab->Prop
 |.non,u=>u=Value.none
 |.bl b,u=>u=Value.bool b
 |.int i,u=>∃t,u=Value.int i t
 |.str x,u=>∃t,u=Value.str x t
 |.byt b,u=>∃t,u=Value.bytes b t
 |.flt b,u=>∃t,u=Value.float b t
 |.ref a,u=>u=Value.ref a
 |.ty n,u=>u=Value.type n
abbrev Vals :List V->List Ab->Prop:=Paired RelV
theorem Vals.length {xs:List V}{us:List Ab}(r:Vals xs us):xs.length=us.length:=Paired.length r
theorem Vals.get :∀{xs:List V}{us:List Ab}{i:Nat}{x:V},Vals xs us->xs[i]?=some x->∃u,us[i]?=some u/\RelV x u
 |_,_,_,_,.nil,e=>by simp at e
 |_,_,0,_,.cons r _,e=>by simp at e;subst e;exact⟨_,rfl,r⟩
 |_,_,i+1,x,.cons _ t,e=>by
  obtain⟨u,h1,h2⟩:=Vals.get t (by simpa using e);exact⟨u,by simpa using h1,h2⟩
theorem Vals.set {x:V}{u:Ab}(r:RelV x u):∀{xs:List V}{us:List Ab} (i:Nat),Vals xs us->Vals (xs.set i x) (us.set i u)
 |_,_,_,.nil=>.nil
 |_,_,0,.cons _ t=>.cons r t
 |_,_,i+1,.cons q t=>.cons q (Vals.set r i t)
theorem Vals.append {xs ys:List V}{us ws:List Ab}(h:Vals xs us)(s:Vals ys ws):Vals (xs++ys) (us++ws):=by
 induction h with
 |nil=>exact s
 |cons r _ a=>exact .cons r a
theorem Vals.take :∀{xs:List V}{us:List Ab} (n:Nat),Vals xs us->Vals (xs.take n) (us.take n)
 |_,_,0,_=>.nil
 |_,_,_+1,.nil=>.nil
 |_,_,n+1,.cons r t=>.cons r (Vals.take n t)
theorem Vals.drop :∀{xs:List V}{us:List Ab} (n:Nat),Vals xs us->Vals (xs.drop n) (us.drop n)
 |_,_,0,r=>r
 |_,_,_+1,.nil=>.nil
 |_,_,n+1,.cons _ t=>Vals.drop n t
def vN :Option V->Option Ab->Prop
 |some v,some u=>RelV v u
 |none,none=>True
 |_,_=>False
def KV {a:Type}:List (a×V)->List (a×Ab)->Prop:=Paired λ(p:a×V) (q:a×Ab)=>p.1=q.1/\RelV p.2 q.2
noncomputable def kV :Key->V
 |.inl i=>.int i
 |.inr x=>.str x
inductive HO where
  |lst (xs:List V)
  |tup (xs:List V)
  |dK (kvs:List (Key×V))|dT (kvs:List (List Key×V))
  |set (S:Int->Bool) (n:Nat)
  |ins (C dx:Ae) (fs:List (Str×V))
  |own (x:Ae)
  |xd (fs:List (Str×V))
  |met (f x:Ae)
  |rng (lo hi:Int)
  |frz (o:Obj) (u:HO)
  |tbl (ps:Array Ab)
  |ext (φ:Ao->Prop)
abbrev Hp :=Ae->Option HO
noncomputable def upd (H:Hp)(a:Ae)(o:HO):Hp:=λb=>if b=a then some o else H b
def zg {H:Hp}{a:Ae}{o:HO}:upd H a o a=some o:=by unfold upd;rw[if_pos rfl]
def zd {H:Hp}{a b:Ae}{o:HO}(h:b≠a):upd H a o b=H b:=by unfold upd;rw[if_neg h]
def tS {H:Hp}{a:Ae}{o u:HO}:upd (upd H a o) a u=upd H a u:=by funext b;unfold upd;split<;>rfl
def cI {H:Hp}{a b:Ae}{o u:HO}(h:H a=some o)(h':H b=some u)(d:o≠u):a≠b:=by intro e;subst e;rw[h]at h';exact d (z34 h')
def zj {H:Hp}{a b:Ae}{o:HO}(h:H a=some o)(h':H b=none):a≠b:=by intro e;subst e;rw[h]at h';cases h'
section
variable (P:Ag)(w:Ai)
def yi (H:Hp)(h:Ao)(a:Ae):HO->Prop
 |.lst xs=>xs.length<=sizeLine/\∃(b:List Ab) (n:Nat),Vals xs b/\h.get? a=some {cls:=.type "list",data:=.seq b.toArray n}
 |.tup xs=>xs.length<=sizeLine/\∃b:List Ab,Vals xs b/\IsTup h a b.toArray
 |.dK kvs=>kvs.length<=sizeLine/\(a == sysModules)=false/\∃vs,KV kvs vs/\h.DictOf (yb P w) a vs
 |.dT kvs=>kvs.length<=sizeLine/\(a == sysModules)=false/\∃xs:List (List Key×Ae×Ab),
   Paired (λ(p:List Key×V) (q:List Key×Ae×Ab)=>p.1=q.1/\H q.2.1=some (.tup (p.1.map kV))/\RelV p.2 q.2.2) kvs xs/\
   ∃o c d,h.get? a=some o/\o.ExactDict/\o.data=.dict c d/\c.toList=xs.map (entryOfKey (tupleKind (yb P w)))/\(xs.map (·.1)).Nodup
 |.set S n=>h.SetOf (intKind P w) a S n
 |.ins C dx fs=>H dx=some (.own a)/\fs.length<=1000/\dx≠a/\h.get? a=some (PySem.W.instObj C dx)/\
   ∃mA,h.Ns1 dx mA/\(∀f,vN (fs.lookup f) (mA f))/\PySem.Within mA (fs.map (·.1))
 |.own _=>∃o,h.get? a=some o
 |.xd fs=>∃mA,h.Ns1 a mA/\∀f,vN (fs.lookup f) (mA f)
 |.rng lo hi=>∃t u v,h.get? a=some {cls:=.type "range",data:=.fields #[.int lo t,.int hi u,.int 1 v]}
 |.frz o u=>h.get? a=some o/\yi H h a u
 |.tbl ps=>h.get? a=some {cls:=.none,data:=.fields ps}
 |.met f x=>h.get? a=some (PySem.W.methodObj (.ref f) (.ref x))
 |.ext φ=>φ h/\(∃o,h.get? a=some o)/\∀h1 h2:Ao,φ h1->(∀o,h1.get? a=some o->h2.get? a=some o)->φ h2
def HOk (H:Hp)(h:Ao):Prop:=∀a o,H a=some o->yi P w H h a o
end
section
variable {P:Ag}{w:Ai}{H H':Hp}{h h':Ao}{a:Ae}{o:HO}
theorem yi.lt (x:yi P w H h a o):a<h.objs.size:=by
 cases o with
 |lst xs=>obtain⟨_,_,_,_,e⟩:=x;exact z07 e
 |tup xs=>obtain⟨_,_,_,p⟩:=x;exact p.lt
 |dK kvs=>obtain⟨_,_,_,_,o,_,_,e,_⟩:=x;exact z07 e
 |dT kvs=>obtain⟨_,_,_,_,o,_,_,e,_⟩:=x;exact z07 e
 |set S n=>obtain⟨o,_,_,_,e,_⟩:=x;exact z07 e
 |ins C dx fs=>obtain⟨_,_,_,e,_⟩:=x;exact z07 e
 |own y=>obtain⟨_,e⟩:=x;exact z07 e
 |xd fs=>obtain⟨_,⟨_,_,_,e,_⟩,_⟩:=x;exact z07 e
 |rng lo hi=>obtain⟨_,_,_,e⟩:=x;exact z07 e
 |frz ob u=>obtain⟨e,_⟩:=x;exact z07 e
 |tbl ps=>exact z07 (x)
 |met f y=>exact z07 (x)
 |ext φ=>obtain⟨_,⟨_,e⟩,_⟩:=x;exact z07 e
theorem Paired.mapP {L β:Type}{F G:L->β->Prop}{c:List L}{l₂:List β}(h:Paired F c l₂)(f:∀a b,F a b->G a b):Paired G c l₂:=by
 induction h with
 |nil=>exact .nil
 |cons r _ d=>exact .cons (f _ _ r) d
theorem yi.stay (x:yi P w H h a o)(k:∀b u,(b=a\/H b=some (.own a))->h.get? b=some u->h'.get? b=some u)
  (A:∀b,H b=some (.own a)->H' b=some (.own a)) (s:∀b xs,H b=some (.tup xs)->H' b=some (.tup xs)):yi P w H' h' a o:=by
 induction o with
 |lst xs=>obtain⟨z,j,n,r,e⟩:=x;exact⟨z,j,n,r,k _ _ (.inl rfl) e⟩
 |tup xs=>obtain⟨z,j,r,ob,e,c⟩:=x;exact⟨z,j,r,ob,k _ _ (.inl rfl) e,c⟩
 |dK kvs=>obtain⟨z,y,vs,r,ob,i,g,e,c⟩:=x;exact⟨z,y,vs,r,ob,i,g,k _ _ (.inl rfl) e,c⟩
 |dT kvs=>
  obtain⟨z,y,xs,r,ob,i,g,e,c⟩:=x;exact⟨z,y,xs,Paired.mapP r λp q z=>⟨z.1,s _ _ z.2.1,z.2.2⟩,ob,i,g,k _ _ (.inl rfl) e,c⟩
 |set S n=>obtain⟨ob,i,g,t,e,c⟩:=x;exact⟨ob,i,g,t,k _ _ (.inl rfl) e,c⟩
 |ins C dx fs=>
  obtain⟨d,z,ne,e,mA,⟨od,i,g,l,c⟩,r⟩:=x;exact⟨A _ d,z,ne,k _ _ (.inl rfl) e,mA,⟨od,i,g,k _ _ (.inr d) l,c⟩,r⟩
 |own y=>obtain⟨ob,e⟩:=x;exact⟨ob,k _ _ (.inl rfl) e⟩
 |xd fs=>obtain⟨mA,⟨od,i,g,e,c⟩,r⟩:=x;exact⟨mA,⟨od,i,g,k _ _ (.inl rfl) e,c⟩,r⟩
 |rng lo hi=>obtain⟨t,u,v,e⟩:=x;exact⟨t,u,v,k _ _ (.inl rfl) e⟩
 |frz ob u m=>obtain⟨e,q⟩:=x;exact⟨k _ _ (.inl rfl) e,m q⟩
 |tbl ps=>
  exact k a _ (.inl rfl) x
 |met f y=>
  exact k a _ (.inl rfl) x
 |ext φ=>obtain⟨p,⟨o,e⟩,st⟩:=x;exact⟨st _ _ p λo q=>k _ _ (.inl rfl) q,⟨o,k _ _ (.inl rfl) e⟩,st⟩
theorem HOk.lt (x:HOk P w H h)(e:H a=some o):a<h.objs.size:=(x a o e).lt
theorem HOk.fresh (x:HOk P w H h)(e:h.objs.size<=a):H a=none:=by
 cases q:H a with
 |none=>rfl
 |some u=>exact absurd (zZ7 (x.lt q) e) (z56 _)
def HOk.kept (x:HOk P w H h)(k:∀b u,h.get? b=some u->h'.get? b=some u):HOk P w H h':=λa o e=>
 (x a o e).stay (λb u _ q=>k b u q) (λ_ q=>q) λ_ _ q=>q
def HOk.laid (x:HOk P w H h)(k:∀b u,h.get? b=some u->h'.get? b=some u)(d:h.objs.size<=a)(new:yi P w (upd H a o) h' a o):HOk P w (upd H a o) h':=λb u e=>by
 have hn:=x.fresh d;by_cases hb:b=a
 .subst hb;rw[zg]at e;cases e;exact new
 .rw[zd hb]at e;exact(x b u e).stay (λc v _ q=>k c v q) (λc q=>by rw[zd (zj q hn)];exact q) λc xs q=>by rw[zd (zj q hn)];exact q
end
def Rd (H:Hp)(a:Ae)(u:HO):Prop:=H a=some u\/∃o,H a=some (.frz o u)
def Rd.ok {P:Ag}{w:Ai}{H:Hp}{h:Ao}{a:Ae}{u:HO}(r:Rd H a u)(x:HOk P w H h):yi P w H h a u:=by
 rcases r with r|⟨o,r⟩
 .exact x a u r
 .obtain⟨_,q⟩:=x a _ r;exact q
def Mut :Option HO->Prop
 |some (.lst _)=>True
 |some (.dK _)=>True
 |some (.dT _)=>True
 |some (.set _ _)=>True
 |some (.ins _ _ _)=>True
 |some (.ext _)=>True
 |_=>False
section
variable {P:Ag}{w:Ai}{H:Hp}{h h':Ao}{x e:Ae}{o':HO}
def HOk.write (ok:HOk P w H h)(i:Mut (H x))(he:e=x\/H e=some (.own x))(k:∀b u,b≠e->h.get? b=some u->h'.get? b=some u)(j:∃u,h'.get? e=some u)
  (new:yi P w (upd H x o') h' x o'):HOk P w (upd H x o') h':=λb u q=>by
 have d:∀c y,H c=some (.own y)->c≠x:=λc y r z=>by subst z;rw[r]at i;exact i
 have f:∀c xs,H c=some (.tup xs)->c≠x:=λc xs r z=>by subst z;rw[r]at i;exact i
 by_cases hb:b=x
 .subst hb;rw[zg]at q;cases q;exact new
 .rw[zd hb]at q;by_cases a:b=e
  .have l:H b=some (.own x):=by
    rcases he with z|z
    .exact absurd (a.trans z) hb
    .rw[a];exact z
   rw[q]at l;cases l;obtain⟨v,m⟩:=j;exact⟨v,by rw[a];exact m⟩
  .refine(ok b u q).stay (λc v g r=>k c v ?_ r) (λc r=>by rw[zd (d c b r)];exact r) λc xs r=>by rw[zd (f c xs r)];exact r
   rcases g with rfl|g
   .exact a
   .rintro rfl;rcases he with z|z
    .exact d c b g z
    .rw[g]at z;cases z;exact hb rfl
end
structure Un (fs ex:List Ae)(H H':Hp)(h h':Ao):Prop where
 keep:∀b o,h.get? b=some o->H b=none->b∉fs->b∉ex->h'.get? b=some o
 slot:∀b o,h.get? b=some o->H b=none->b∈fs->b∉ex->∃sl,h'.get? b=some {o with slots:=sl}
 free:∀b o,h.get? b=some o->H b=none->b∉ex->H' b=none
 there:∀b o,h.get? b=some o->b∉ex->∃o',h'.get? b=some o'
 tups:∀b xs,H b=some (.tup xs)->H' b=some (.tup xs)
 frzs:∀b o u,H b=some (.frz o u)->H' b=some (.frz o u)
 tbls:∀b ps,H b=some (.tbl ps)->∃more,H' b=some (.tbl (ps++more))
section
variable {fs fs' ex ex':List Ae}{H H1 H2:Hp}{h h1 h2 h':Ao}{a x e:Ae}{o:HO}
def Un.any (u:Un fs ex H H1 h h1){b:Ae}{ob:Obj}(q:h.get? b=some ob)(n:H b=none)(c:b∉ex):∃sl,h1.get? b=some {ob with slots:=sl}:=by
 by_cases hb:b∈fs
 .exact u.slot b ob q n hb c
 .exact⟨ob.slots,u.keep b ob q n hb c⟩
def Un.kept (k:∀b u,h.get? b=some u->h'.get? b=some u):Un fs ex H H h h':=
 ⟨λb ob q _ _ _=>k b ob q,λb ob q _ _ _=>⟨ob.slots,k b ob q⟩,λ_ _ _ n _=>n,λb ob q _=>⟨ob,k b ob q⟩,λ_ _ q=>q,λ_ _ _ q=>q,λ_ ps q=>⟨#[],by rw[q];simp⟩⟩
def Un.refl :Un fs ex H H h h:=Un.kept λ_ _ q=>q
def Un.laid (k:∀b u,h.get? b=some u->h'.get? b=some u)(c:h.objs.size<=a)(hn:H a=none):Un fs ex H (upd H a o) h h' where
 keep:=λb u q _ _ _=>k b u q
 slot:=λb u q _ _ _=>⟨u.slots,k b u q⟩
 free:=λb u q n _=>by rw[zd (z30 (zZ7 (z07 q) c))];exact n
 there:=λb u q _=>⟨u,k b u q⟩
 tups:=λb xs q=>by rw[zd (zj q hn)];exact q
 frzs:=λb u xs q=>by rw[zd (zj q hn)];exact q
 tbls:=λb ps q=>⟨#[],by rw[zd (zj q hn),q];simp⟩
def Un.write (d:Mut (H x))(he:e=x\/H e=some (.own x))(k:∀b u,b≠e->h.get? b=some u->h'.get? b=some u)(f:∃u,h'.get? e=some u):Un fs ex H (upd H x o) h h':=by
 have g:∀b,H b=none->b≠x:=λb n z=>by subst z;rw[n]at d;exact d
 have hb:∀b,H b=none->b≠e:=λb n z=>by
  subst z;rcases he with r|r
  .exact g b n r
  .rw[n]at r;cases r
 have hm:∀b u,H b=some u->¬Mut (some u)->b≠x:=λb u q nm z=>by subst z;rw[q]at d;exact nm d
 refine⟨λb u q n _ _=>k b u (hb b n) q,λb u q n _ _=>⟨u.slots,k b u (hb b n) q⟩,λb u q n _=>by rw[zd (g b n)];exact n,λb u q _=>?_,
  λb xs q=>by rw[zd (hm b _ q λz=>z)];exact q,λb u xs q=>by rw[zd (hm b _ q λz=>z)];exact q,λb ps q=>⟨#[],by rw[zd (hm b _ q λz=>z),q];simp⟩⟩
 by_cases c:b=e
 .subst c;exact f
 .exact⟨u,k b u c q⟩
end
noncomputable def trk (h:Ao)(H:Hp):List Ae:=(List.range h.objs.size).filter λa=>(H a).isSome
def qq (h:Ao)(H:Hp):Ao:=PySem.W.hideAll h (trk h H)
def gK (h:Ao)(H:Hp):(qq h H).objs.size=h.objs.size:=PySem.W.hideAll_size _ _
def ae {h:Ao}{H:Hp}{b:Ae}{o:Obj}(e:h.get? b=some o)(n:H b=none):(qq h H).get? b=some o:=
 PySem.W.hideAll_get _ e λhm=>by
  have q:=(yi1.mp hm).2;rw[n]at q;simp at q
theorem zj1 {h:Ao}{H:Hp}{b:Ae}{o:Obj}(e:(qq h H).get? b=some o):h.get? b=some o/\H b=none:=by
 have a:=PySem.W.of_hideAll (trk h H) e;refine⟨a,?_⟩;cases q:H b with
 |none=>rfl
 |some x=>
  have hm:b∈trk h H:=yi1.mpr ⟨yd0.mpr (z07 a),by simp[q]⟩;have z:(qq h H).get? b=none:=PySem.W.hideAll_none (trk h H) hm;rw[z]at e;cases e
structure Mod (K:Ac)(mg:Str->Option Ab)(base:Ao):Prop where
 kin:K.In base
 glob:base.Ns Ah mg
 blt:∃mb,base.Ns builtinsNs mb/\∀x:Str,x≠"__name__"->mb x=bootBuiltins x
 nolimit:base.NoLimit
structure Cx where
 prog:Ag
 w:Ai
 K:Ac
 mg:Str->Option Ab
 base:Ao
 A:Am
 N:List Str
 s₀:Ad
 H₀:Hp
 env:Ar
 outer:List Ar
 stack:List Ar
 ex:List Ae
 fn:Str->Bool
 calm:Bool
 pn:List (Ae×Obj)
 xe:Ab->Ad->Prop
noncomputable def frs (l:List Ar):List Ae:=l.filterMap (·.frame)
abbrev Cx.fs (X:Cx):List Ae:=frs X.outer
def Vis (sc:Aq)(x:Str):Prop:=sc.names.lookup x=some .local\/sc.names.lookup x=some .cell\/sc.names.lookup x=some .free
def Loc (sc:Aq)(x:Str):Prop:=sc.names.lookup x=some .local\/sc.names.lookup x=some .cell
def Look (env:Ar)(h:Ao)(m:Str->Option Ab)(x:Str)(u:Ab):Prop:=
 (env.kindOf x=some .local/\m x=some u)\/((env.kindOf x=some .cell\/env.kindOf x=some .free)/\∃c,env.cells.lookup x=some c/\h.IsCell c (some u))
structure Cx.Ok (X:Cx):Prop where
 mod:Mod X.K X.mg X.base
 kind:X.env.scope.kind=.function
 glob:X.env.globals=Ah
 blt:X.env.builtins=builtinsNs
 above:X.s₀.heap.objs.size<=X.env.locals
 inj:∀x y c,X.env.cells.lookup x=some c->X.env.cells.lookup y=some c->x=y
 has:∀x,(X.env.kindOf x=some .cell\/X.env.kindOf x=some .free)->∃c,X.env.cells.lookup x=some c
 cab:∀x c,X.fn x=true->X.env.cells.lookup x=some c->X.s₀.heap.objs.size<=c
 hd:X.calm=true->X.A.handled=none
 frames:X.A.frames=some X.stack
 stk:X.stack=X.outer\/(X.stack=X.env::X.outer/\X.env.frame=some X.env.locals)
 exf:∀b∈X.ex,b≠X.env.locals/\∀x c,X.env.cells.lookup x=some c->c≠b
 bs:∀b o,X.base.get? b=some o->X.s₀.heap.get? b=some o/\X.H₀ b=none
 bsz:X.base.objs.size<=X.s₀.heap.objs.size
 noex:∀b o,X.base.get? b=some o->b∉X.ex
 exfs:∀b∈X.ex,b∉X.fs
 funs:X.s₀.heap.FunFrames X.base X.outer
 frf:∀b∈X.fs,X.H₀ b=none
structure Inv (X:Cx)(pins:List (Ae×Obj))(B:List (Option V))(H:Hp)(s:Ad):Prop where
 ok:X.Ok
 os:s.os=X.s₀.os
 bare:AllBare s.gens
 base:Un X.fs X.ex X.H₀ H X.s₀.heap s.heap
 loc:∃m,s.heap.Ns X.env.locals m/\∀(i:Nat) (x:Str) (v:V),X.N[i]?=some x->B[i]?=some (some v)->Vis X.env.scope x->∃u,RelV v u/\Look X.env s.heap m x u
 cell:∀x c,X.env.cells.lookup x=some c->∃v,s.heap.IsCell c v
 free:H X.env.locals=none
 freeC:∀x c,X.env.cells.lookup x=some c->H c=none
 pin:∀p∈X.pn++pins,s.heap.get? p.1=some p.2/\H p.1=none/\p.1≠X.env.locals/\p.1∉X.fs/\∀v,p.2.data≠.cell v
 hok:HOk X.prog X.w H s.heap
 len:B.length=X.N.length
section
variable {X:Cx}{pins:List (Ae×Obj)}{B:List (Option V)}{H H':Hp}{s:Ad}{h':Ao}
def Cx.Ok.nofr (ok:X.Ok){b:Ae}{o:Obj}(e:X.base.get? b=some o):b∉X.fs:=λhb=>by
 have:=(ok.funs.mem hb).1;rw[e]at this;cases this
theorem Inv.bs (I:Inv X pins B H s):∀b o,X.base.get? b=some o->s.heap.get? b=some o/\H b=none:=λb o e=>
 ⟨I.base.keep b o (I.ok.bs b o e).1 (I.ok.bs b o e).2 (I.ok.nofr e) (I.ok.noex b o e),I.base.free b o (I.ok.bs b o e).1 (I.ok.bs b o e).2 (I.ok.noex b o e)⟩
def Inv.bk (I:Inv X pins B H s):∀b o,X.base.get? b=some o->s.heap.get? b=some o:=λb o e=>(I.bs b o e).1
theorem Inv.mod (I:Inv X pins B H s):Mod X.K X.mg X.base:=I.ok.mod
def Inv.kIn (I:Inv X pins B H s):X.K.In s.heap:=I.ok.mod.kin.keeps I.bk
theorem Inv.lt (I:Inv X pins B H s):X.env.locals<s.heap.objs.size:=let⟨_,hn,_⟩:=I.loc;hn.lt
def Inv.sz (I:Inv X pins B H s):X.s₀.heap.objs.size<=s.heap.objs.size:=z05 I.ok.above (z58 I.lt)
def Inv.nofs (I:Inv X pins B H s){a:Ae}(h:s.heap.objs.size<=a):a∉X.fs:=λhb=>by
 obtain⟨_,o,b,_⟩:=I.ok.funs.mem hb;exact absurd (zZ7 (z07 b) (z05 I.sz h)) (z56 _)
def Inv.cne (I:Inv X pins B H s):∀x c,X.env.cells.lookup x=some c->c≠X.env.locals:=λx c e z=>by
 obtain⟨v,o,d,hd⟩:=I.cell x c e;obtain⟨m,⟨o',g,f,a,b,_⟩,_⟩:=I.loc;rw[z,a]at d;cases d;rw[b]at hd;cases hd
theorem Inv.funs (I:Inv X pins B H s):s.heap.FunFrames X.base X.outer:=by
 have all:∀l,(∀b∈frs l,b∈X.fs)->X.s₀.heap.FunFrames X.base l->s.heap.FunFrames X.base l:=by
  intro l
  induction l with
  |nil=>intro _ _;trivial
  |cons env r g=>
   intro c d;obtain⟨hk,⟨L,o,hf,hn,f,hd⟩,hr⟩:=d;have a:=c L (by unfold frs;rw[ya8,hf];exact z03);obtain⟨sl,e⟩:=I.base.slot L o f (I.ok.frf L a) a λz=>I.ok.exfs L z a;exact⟨hk,⟨L,_,hf,hn,e,hd⟩,g (λb hb=>c b (by unfold frs;rw[ya8,hf];exact z01 _ hb)) hr⟩
 exact all X.outer (λ_ hb=>hb) I.ok.funs
theorem Inv.stack (I:Inv X pins B H s):s.heap.FunFrames X.base X.stack:=by
 rcases I.ok.stk with e|⟨e,hf⟩
 .rw[e];exact I.funs
 .rw[e];obtain⟨m,hn,_⟩:=I.loc;refine .cons (by rw[I.ok.kind];decide) hf hn ?_ I.funs;exact Heap.get?_none_of_le (z05 I.ok.bsz I.ok.above)
def Inv.stkSub (I:Inv X pins B H s):∀b∈frs X.stack,b∈X.env.locals::X.fs:=λb hb=>by
 rcases I.ok.stk with e|⟨e,hf⟩
 .rw[e]at hb;exact z01 _ hb
 .rw[e]at hb;unfold frs at hb;rw[ya8,hf]at hb;exact hb
def Inv.stkFree (I:Inv X pins B H s):∀b∈frs X.stack,H b=none:=λb hb=>by
 rcases zZ9.mp (I.stkSub b hb)with e|hb
 .rw[e];exact I.free
 .obtain⟨_,o,a,_⟩:=I.ok.funs.mem hb;exact I.base.free b o a (I.ok.frf b hb) λz=>I.ok.exfs b z hb
def Inv.step {E:Array GenState}{t':Nat}{d':Drawn}{ch:List Ae}(I:Inv X pins B H s)
  (f:∀b∈ch,(b∈X.ex\/X.s₀.heap.objs.size<=b)/\b≠X.env.locals/\(∀x c,X.env.cells.lookup x=some c->c≠b)/\∀p∈X.pn++pins,p.1≠b)
  (keep:∀b o,b≠X.env.locals->b∉X.fs->b∉ch->s.heap.get? b=some o->H b=none->h'.get? b=some o)
  (slot:∀b o,b≠X.env.locals->b∈X.fs->b∉ch->s.heap.get? b=some o->H b=none->∃sl,h'.get? b=some {o with slots:=sl}) (free:∀b o,b∉ch->s.heap.get? b=some o->H b=none->H' b=none)
  (there:∀b o,b∉ch->s.heap.get? b=some o->∃o',h'.get? b=some o')
  (tups:∀b xs,H b=some (.tup xs)->H' b=some (.tup xs)) (frzs:∀b o u,H b=some (.frz o u)->H' b=some (.frz o u)) (tbls:∀b ps,H b=some (.tbl ps)->∃more,H' b=some (.tbl (ps++more)))
  (ns:∀m,s.heap.Ns X.env.locals m->h'.Ns X.env.locals m) (hok:HOk X.prog X.w H' h') (hg:AllBare E):
  Inv X pins B H' {s with heap:=h',gens:=E,drawn:=d',toks:=t'}:=by
 have y:∀b o,X.s₀.heap.get? b=some o->b≠X.env.locals:=λb o e=>z30 (zZ7 (z07 e) I.ok.above);have h:∀b o,X.s₀.heap.get? b=some o->b∉X.ex->b∉ch:=λb o e a hb=>by
  rcases(f b hb).1 with z|z
  .exact a z
  .exact absurd (zZ7 (z07 e) z) (z56 _)
 have cellK:∀x c,X.env.cells.lookup x=some c->∀v,s.heap.IsCell c v->h'.IsCell c v:=λx c e v C=>by
  obtain⟨o,j,hd⟩:=C;have g:c∉ch:=λz=>(f c z).2.2.1 x c e rfl;by_cases D:c∈X.fs
  .obtain⟨sl,q⟩:=slot c o (I.cne x c e) D g j (I.freeC x c e);exact⟨_,q,hd⟩
  .exact⟨o,keep c o (I.cne x c e) D g j (I.freeC x c e),hd⟩
 refine⟨I.ok,I.os,hg,⟨λb o e n hb a=>?_,λb o e n hb a=>?_,λb o e n a=>?_,λb o e a=>?_,λb xs e=>tups b xs (I.base.tups b xs e),λb o xs e=>frzs b o xs (I.base.frzs b o xs e),λb ps e=>?_⟩,?_,λx c e=>?_,?_,λx c e=>?_,λp F=>?_,hok,I.len⟩
 .exact keep b o (y b o e) hb (h b o e a) (I.base.keep b o e n hb a) (I.base.free b o e n a)
 .obtain⟨sl,e1⟩:=I.base.slot b o e n hb a;obtain⟨A,t⟩:=slot b _ (y b o e) hb (h b o e a) e1 (I.base.free b o e n a);exact⟨A,t⟩
 .obtain⟨o',e1⟩:=I.base.there b o e a;exact free b o' (h b o e a) e1 (I.base.free b o e n a)
 .obtain⟨o',e1⟩:=I.base.there b o e a;exact there b o' (h b o e a) e1
 .obtain⟨m1,e1⟩:=I.base.tbls b ps e;obtain⟨m2,t⟩:=tbls b _ e1;exact⟨m1++m2,by rw[t,Array.append_assoc]⟩
 .obtain⟨m,hn,G⟩:=I.loc;refine⟨m,ns m hn,λi x v e1 t J=>?_⟩;obtain⟨u,r,l⟩:=G i x v e1 t J;refine⟨u,r,?_⟩;rcases l with l|⟨k,c,e,z⟩
  .exact .inl l
  .exact .inr ⟨k,c,e,cellK x c e _ z⟩
 .obtain⟨v,z⟩:=I.cell x c e;exact⟨v,cellK x c e v z⟩
 .obtain⟨m,⟨o,_,_,j,_⟩,_⟩:=I.loc;exact free _ o (λz=>(f _ z).2.1 rfl) j I.free
 .obtain⟨v,o,j,hd⟩:=I.cell x c e;exact free c o (λz=>(f c z).2.2.1 x c e rfl) j (I.freeC x c e)
 .obtain⟨e,n,ne,nf,d⟩:=I.pin p F;have g:p.1∉ch:=λz=>(f p.1 z).2.2.2 p F rfl;exact⟨keep p.1 p.2 ne nf g e n,free p.1 p.2 g e n,ne,nf,d⟩
def Inv.un {t':Nat}(I:Inv X pins B H s)(u:Un X.fs [] H H' s.heap h')(hok:HOk X.prog X.w H' h'):Inv X pins B H' {s with heap:=h',toks:=t'}:=by
 obtain⟨m,⟨o,j,i,f,r⟩,_⟩:=id I.loc;obtain⟨sl,h⟩:=u.any f I.free (by simp);exact I.step (ch:=[]) (λ_ z=>nomatch z) (λb o _ hb _ e n=>u.keep b o e n hb (by simp)) (λb o _ hb _ e n=>u.slot b o e n hb (by simp)) (λb o _ e n=>u.free b o e n (by simp)) (λb o _ e=>u.there b o e (by simp)) u.tups u.frzs u.tbls (λk hm=>by
  obtain⟨o',d,c,a,g⟩:=hm;rw[f]at a;cases a;exact⟨_,d,c,h,g⟩) hok I.bare
def Inv.call {j:Array GenState}{t':Nat}{d':Drawn}{ch:List Ae}(I:Inv X pins B H s)(u:Un (frs X.stack) ch H H' s.heap h')(hok:HOk X.prog X.w H' h')(hg:AllBare j)
  (d:∀b∈ch,(b∈X.ex\/X.s₀.heap.objs.size<=b)/\b≠X.env.locals/\(∀x c,X.env.cells.lookup x=some c->c≠b)/\∀p∈X.pn++pins,p.1≠b):
  Inv X pins B H' {s with heap:=h',gens:=j,drawn:=d',toks:=t'}:=by
 obtain⟨m,⟨o,t,q,k,r⟩,_⟩:=id I.loc;obtain⟨sl,i⟩:=u.any k I.free λz=>(d _ z).2.1 rfl;exact I.step d (λb o i hb a e n=>u.keep b o e n (λz=>(zZ9.mp (I.stkSub b z)).elim i hb) a) (λb o _ _ a e n=>u.any e n a) (λb o a e n=>u.free b o e n a) (λb o a e=>u.there b o e a) u.tups u.frzs u.tbls (λv hm=>by
  obtain⟨o',h,g,f,l⟩:=hm;rw[k]at f;cases f;exact⟨_,h,g,i,l⟩) hok hg
def Inv.turned {t':Nat}{it:Ae}(I:Inv X pins B H s)(k:∀b o,b≠it->s.heap.get? b=some o->h'.get? b=some o)(hn:H it=none)(f:it≠X.env.locals)
  (h1:it∈X.ex\/X.s₀.heap.objs.size<=it) (h2:∀x c,X.env.cells.lookup x=some c->c≠it) (h3:∀p∈X.pn++pins,p.1≠it):Inv X pins B H {s with heap:=h',toks:=t'}:=by
 have d:∀b u,H b=some u->b≠it:=λb u e z=>by rw[z,hn]at e;cases e
 refine I.step (ch:=[it]) (λb hb=>?_) (λb o _ _ a e _=>k b o (λz=>a (by simp[z])) e) (λb o _ _ a e _=>⟨o.slots,k b o (λz=>a (by simp[z])) e⟩) (λ_ _ _ _ n=>n)
  (λb o a e=>⟨o,k b o (λz=>a (by simp[z])) e⟩) (λ_ _ e=>e) (λ_ _ _ e=>e) (λb ps e=>⟨#[],by rw[e];simp⟩) (λm hm=>?_) (λb u e=>?_) I.bare
 .have e:b=it:=by simpa using hb
  subst e;exact⟨h1,f,h2,h3⟩
 .obtain⟨o,h,g,i,r⟩:=hm;exact⟨o,h,g,k _ o (z42 f) i,r⟩
 .refine(I.hok b u e).stay (λc v a q=>k c v ?_ q) (λ_ q=>q) λ_ _ q=>q;rcases a with z|z
  .rw[z];exact d b u e
  .exact d c _ z
def Inv.tok (I:Inv X pins B H s)(t:Nat):Inv X pins B H {s with toks:=t}:=I.un Un.refl I.hok
theorem Inv.kept {t':Nat}(I:Inv X pins B H s)(k:∀b u,s.heap.get? b=some u->h'.get? b=some u):Inv X pins B H {s with heap:=h',toks:=t'}:=I.un (Un.kept k) (I.hok.kept k)
theorem Inv.laid {a:Ae}{o:HO}{t':Nat}(I:Inv X pins B H s)(k:∀b u,s.heap.get? b=some u->h'.get? b=some u)(c:s.heap.objs.size<=a)(new:yi X.prog X.w (upd H a o) h' a o):
  Inv X pins B (upd H a o) {s with heap:=h',toks:=t'}:=I.un (Un.laid k c (I.hok.fresh c)) (I.hok.laid k c new)
theorem Inv.write {x e:Ae}{o:HO}{t':Nat}(I:Inv X pins B H s)(c:Mut (H x))(he:e=x\/H e=some (.own x))(k:∀b u,b≠e->s.heap.get? b=some u->h'.get? b=some u)(a:∃u,h'.get? e=some u)
  (new:yi X.prog X.w (upd H x o) h' x o):Inv X pins B (upd H x o) {s with heap:=h',toks:=t'}:=I.un (Un.write c he k a) (I.hok.write c he k a new)
def Inv.pins_of {a:List (Ae×Obj)}(I:Inv X pins B H s)(h:∀p∈a,s.heap.get? p.1=some p.2/\H p.1=none/\p.1≠X.env.locals/\p.1∉X.fs/\∀v,p.2.data≠.cell v):Inv X a B H s:=
 ⟨I.ok,I.os,I.bare,I.base,I.loc,I.cell,I.free,I.freeC,λp b=>(z44.mp b).elim (λz=>I.pin p (yb9 _ z)) (h p),I.hok,I.len⟩
def mJ {N:List Str}(d:N.Nodup){i j:Nat}{x:Str}(a:N[i]?=some x)(b:N[j]?=some x):i=j:=by
 obtain⟨h1,e1⟩:=zZ6.mp a;obtain⟨h2,c⟩:=zZ6.mp b;exact(List.getElem_inj d).mp (e1.trans c.symm)
def pe {M:Model}{A:Am}{E:Ab->Ad->Prop}{i:Nat}{x:Str}{v:V}{u:Ab}{Q:Unit->Ad->Prop}(I:Inv X pins B H s)(hN:X.N.Nodup)(hi:X.N[i]?=some x)(l:Loc X.env.scope x)(r:RelV v u)
  (h:∀s',Inv X pins (B.set i (some v)) H s'->(∃a,Heap.SameBut a s.heap s'.heap/\(a=X.env.locals\/X.env.cells.lookup x=some a))->Q () s') (hf:X.fn x=true\/X.env.scope.names.lookup x=some .local:=by first|exact .inl rfl|exact .inr rfl|assumption):Aj M A (storeName X.env x u) Q E s:=by
 obtain⟨m,hn,hl⟩:=id I.loc;have L:(X.env.scope.kind == .class||(X.env.scope.kind == .module&&X.env.locals != X.env.globals))=false:=by rw[I.ok.kind];rfl
 have D:i<B.length:=by rw[I.len];exact(zZ6.mp hi).1
 have cne:=I.cne;have tracked:∀{a:Ae} {h':Ao},(∃o,s.heap.get? a=some o/\H a=none)->Heap.SameBut a s.heap h'->HOk X.prog X.w H h':=λ{a h'} ha f b ob e=>by
  obtain⟨_,_,t⟩:=ha;refine(I.hok b ob e).stay (λc R g q=>(f.2 c ?_).trans q) (λ_ q=>q) λ_ _ q=>q;rintro rfl;rcases g with rfl|g
  .rw[t]at e;cases e
  .rw[t]at g;cases g
 rcases l with hk|hk
 .refine wpAny_storeName_local hk hn (λh' a0 f=>?_) L;obtain⟨oL,_,_,U,_⟩:=id hn;refine h _ ⟨I.ok,I.os,I.bare,⟨λb o e n hb l=>?_,λb o e n hb l=>?_,I.base.free,λb o e l=>?_,I.base.tups,I.base.frzs,I.base.tbls⟩,⟨_,a0,λj y Z e1 C Y=>?_⟩,λy c e=>?_,I.free,I.freeC,λp W=>?_,tracked ⟨oL,U,I.free⟩ f,by simpa using I.len⟩ ⟨_,f,.inl rfl⟩
  .exact(f.2 b (z30 (zZ7 (z07 e) I.ok.above))).trans (I.base.keep b o e n hb l)
  .obtain⟨sl,e1⟩:=I.base.slot b o e n hb l;exact⟨sl,(f.2 b (z30 (zZ7 (z07 e) I.ok.above))).trans e1⟩
  .obtain⟨o',e1⟩:=I.base.there b o e l;exact⟨o',(f.2 b (z30 (zZ7 (z07 e) I.ok.above))).trans e1⟩
  .by_cases G:j=i
   .subst G;rw[hi]at e1;cases e1;rw[ya9 D]at C;cases C;exact⟨u,r,.inl ⟨hk,by simp⟩⟩
   .rw[z68 (z42 G)]at C;obtain⟨S,T,q⟩:=hl j y Z e1 C Y;refine⟨S,T,?_⟩;rcases q with⟨k,e⟩|⟨k,c,e,z⟩
    .refine .inl ⟨k,?_⟩;have:y≠x:=λe=>G (mJ hN e1 (e▸hi));simp[this,e]
    .exact .inr ⟨k,c,e,z.sameBut f (cne y c e)⟩
  .obtain⟨R,z⟩:=I.cell y c e;exact⟨R,z.sameBut f (cne y c e)⟩
  .obtain⟨e,n,ne,nf,d⟩:=I.pin p W;exact⟨(f.2 p.1 ne).trans e,n,ne,nf,d⟩
 .have F:X.fn x=true:=by
   rcases hf with z|z
   .exact z
   .rw[z]at hk;cases hk
  obtain⟨c,g⟩:=I.ok.has x (.inl hk);obtain⟨R,z⟩:=I.cell x c g;refine wpAny_storeName_cell I.ok.kind hk g z (λh' J f=>?_);obtain⟨oc,K,P⟩:=id z;refine h {s with heap:=h'} ⟨I.ok,I.os,I.bare,⟨λb o e n hb l=>?_,λb o e n hb l=>?_,I.base.free,λb o e l=>?_,I.base.tups,I.base.frzs,I.base.tbls⟩,⟨m,hn.sameBut f (z42 (cne x c g)),λj y Z e1 C Y=>?_⟩,λy c' e=>?_,I.free,I.freeC,λp W=>?_,tracked ⟨oc,K,I.freeC x c g⟩ f,by simpa using I.len⟩ ⟨c,f,.inr g⟩
  .exact(f.2 b (z30 (zZ7 (z07 e) (I.ok.cab x c F g)))).trans (I.base.keep b o e n hb l)
  .obtain⟨sl,e1⟩:=I.base.slot b o e n hb l;exact⟨sl,(f.2 b (z30 (zZ7 (z07 e) (I.ok.cab x c F g)))).trans e1⟩
  .obtain⟨o',e1⟩:=I.base.there b o e l;exact⟨o',(f.2 b (z30 (zZ7 (z07 e) (I.ok.cab x c F g)))).trans e1⟩
  .by_cases G:j=i
   .subst G;rw[hi]at e1;cases e1;rw[ya9 D]at C;cases C;exact⟨u,r,.inr ⟨.inl hk,c,g,J⟩⟩
   .rw[z68 (z42 G)]at C;obtain⟨S,T,q⟩:=hl j y Z e1 C Y;refine⟨S,T,?_⟩;rcases q with q|⟨k,c',e,z'⟩
    .exact .inl q
    .refine .inr ⟨k,c',e,z'.sameBut f ?_⟩;rintro rfl;exact G (mJ hN e1 (I.ok.inj _ _ _ e g▸hi))
  .by_cases O:c'=c
   .subst O;exact⟨_,J⟩
   .obtain⟨w2,z2⟩:=I.cell y c' e;exact⟨w2,z2.sameBut f O⟩
  .obtain⟨e,n,ne,nf,d⟩:=I.pin p W;refine⟨(f.2 p.1 ?_).trans e,n,ne,nf,d⟩;intro q;rw[q,K]at e;exact d R (by rw[<-(z34 e)];exact P)
def my {M:Model}{A:Am}{E:Ab->Ad->Prop}{i:Nat}{x:Str}{v:V}{u:Ab}{Q:Unit->Ad->Prop}(I:Inv X pins B H s)(a:X.N.Nodup)(hi:X.N[i]?=some x)(b:Loc X.env.scope x)(r:RelV v u)
  (h:∀s',Inv X pins (B.set i (some v)) H s'->Q () s') (hf:X.fn x=true\/X.env.scope.names.lookup x=some .local:=by first|exact .inl rfl|exact .inr rfl|assumption):Aj M A (storeName X.env x u) Q E s:=
 pe I a hi b r (λs' c _=>h s' c) hf
def Inv.call' {s':Ad}{ch:List Ae}(I:Inv X pins B H s)(d:s'.os=s.os)(u:Un (frs X.stack) ch H H' s.heap s'.heap)(hok:HOk X.prog X.w H' s'.heap)(hg:AllBare s'.gens)
  (a:∀b∈ch,(b∈X.ex\/X.s₀.heap.objs.size<=b)/\b≠X.env.locals/\(∀x c,X.env.cells.lookup x=some c->c≠b)/\∀p∈X.pn++pins,p.1≠b):Inv X pins B H' s':=by
 obtain⟨h',f,d',t',o'⟩:=s';have e:=d;subst e;exact I.call u hok hg a
end
abbrev XK :=Ab->Option Ae->Hp->Prop
abbrev St :=List (Option V)
abbrev VK :=V->Hp->Prop
abbrev TE :=St->Hp->VK->Prop
abbrev TT :=St->Hp->(Bool->Hp->Prop)->Prop
abbrev TA :=St->Hp->(List V->Hp->Prop)->Prop
structure Ends where
 nx:St->Hp->Prop
 rt:VK
 bk:St->Hp->Prop:=λ_ _=>False
 ct:St->Hp->Prop:=λ_ _=>False
abbrev TS :=Ends->St->Hp->Prop
def EP (X:Cx)(pins:List (Ae×Obj))(B:St)(Q:VK)(u:Ab)(s':Ad):Prop:=∃v H',Inv X pins B H' s'/\RelV v u/\Q v H'
def TP (X:Cx)(pins:List (Ae×Obj))(B:St)(Q:Bool->Hp->Prop)(b:Bool)(s':Ad):Prop:=∃H',Inv X pins B H' s'/\Q b H'
def AP (X:Cx)(pins:List (Ae×Obj))(B:St)(Q:List V->Hp->Prop)(us:List Ab)(s':Ad):Prop:=∃vs H',Inv X pins B H' s'/\Vals vs us/\Q vs H'
def SP (X:Cx)(pins:List (Ae×Obj))(D:Ends)(f:Flow)(s':Ad):Prop:=
 match f with
 |.next=>∃a H',Inv X pins a H' s'/\D.nx a H'
 |.brk=>∃a H',Inv X pins a H' s'/\D.bk a H'
 |.cont=>∃a H',Inv X pins a H' s'/\D.ct a H'
 |.ret u=>∃v a H',Inv X pins a H' s'/\RelV v u/\D.rt v H'
def PE (X:Cx)(e:Ak)(t:TE):Prop:=
 ∀(pins:List (Ae×Obj)) (s:Ad) (B:St) (H:Hp) (Q:VK),Inv X pins B H s->t B H Q->Aj (Al X.prog X.w) X.A (eval e X.env) (EP X pins B Q) X.xe s
def PT (X:Cx)(e:Ak)(t:TT):Prop:=
 ∀(pins:List (Ae×Obj)) (s:Ad) (B:St) (H:Hp) (Q:Bool->Hp->Prop),Inv X pins B H s->t B H Q->Aj (Al X.prog X.w) X.A (isTrue e X.env (eval e X.env)) (TP X pins B Q) X.xe s
def PW (X:Cx)(e:Ak)(t:TT):Prop:=
 ∀(whole:Sem Ab) (pins:List (Ae×Obj)) (s:Ad) (B:St) (H:Hp) (Q:Bool->Hp->Prop),Inv X pins B H s->t B H Q->Aj (Al X.prog X.w) X.A (isTrue e X.env whole) (TP X pins B Q) X.xe s
def PW.pt {X:Cx}{e:Ak}{t:TT}(h:PW X e t):PT X e t:=h _
def PA (X:Cx)(a:List Ak)(t:TA):Prop:=
 ∀(pos:Pos) (pins:List (Ae×Obj)) (s:Ad) (B:St) (H:Hp) (Q:List V->Hp->Prop),Inv X pins B H s->t B H Q->Aj (Al X.prog X.w) X.A (spliced (backTo pos (Af a X.env))) (AP X pins B Q) X.xe s
def PS (X:Cx)(st:An)(t:TS):Prop:=
 ∀(pins:List (Ae×Obj)) (s:Ad) (B:St) (H:Hp) (D:Ends),Inv X pins B H s->t D B H->Aj (Al X.prog X.w) X.A (exec st X.env) (SP X pins D) X.xe s
def PSs (X:Cx)(st:List An)(t:TS):Prop:=
 ∀(pins:List (Ae×Obj)) (s:Ad) (B:St) (H:Hp) (D:Ends),Inv X pins B H s->t D B H->Aj (Al X.prog X.w) X.A (execs st X.env) (SP X pins D) X.xe s
def thn {L:Type}{t:Sem L}{Q b:L->Ad->Prop}{M:Model}{A:Am}{E:Ab->Ad->Prop}{s:Ad}(h:Aj M A t Q E s)(c:∀a s,Q a s->b a s):Aj M A t b E s:=z60 h c λ_ _ x=>x
section
variable {X:Cx}
def zg3 (i:Nat):TE:=λB H Q=>∃v,B[i]?=some (some v)/\Q v H
def tC (v:V):TE:=λ_ H Q=>Q v H
def xj {i:Nat}{x:Str}{pos:Pos}(g:X.N[i]?=some x)(j:Vis X.env.scope x)(hd:(x == ("__debug__":Str))=false:=by decide)(b:(x == ("__classdict__":Str))=false:=by decide):PE X (.Name x pos) (zg3 i):=by
 intro pins s B H Q I h;obtain⟨v,e,h⟩:=h;obtain⟨m,hn,f⟩:=I.loc;obtain⟨u,r,l⟩:=f i x v g e j;have fin:EP X pins B Q u s:=⟨v,H,I,r,h⟩;rcases l with⟨hk,hm⟩|⟨hk,c,d,a⟩
 .exact wpAny_Name (wpAny_loadName_local I.ok.kind hk hn hm fin) hd
 .rcases hk with hk|hk
  .exact wpAny_Name (wpAny_loadName_cell I.ok.kind hk d a fin) hd
  .exact wpAny_Name (wpAny_loadName_free I.ok.kind hk d a fin b) hd
def zu {i j pos}:PE X (.Constant (.int i) j pos) (tC (.int i)):=λ_ _ _ H _ I h=>wpAny_Constant_int ⟨.int i,H,I.tok _,⟨_,rfl⟩,h⟩
def zM2 {b j pos}:PE X (.Constant (.bool b) j pos) (tC (.bl b)):=λ_ _ _ H _ I h=>Constant_bool ⟨.bl b,H,I,rfl,h⟩
def zb5 {j pos}:PE X (.Constant .none j pos) (tC .non):=λ_ _ _ H _ I h=>Constant_none ⟨.non,H,I,rfl,h⟩
def zB2 {x j pos}:PE X (.Constant (.str x) j pos) (tC (.str x)):=λ_ _ _ H _ I h=>Calls.Constant_str ⟨.str x,H,I.tok _,⟨_,rfl⟩,h⟩
def Gl (X:Cx)(x:Str):Prop:=X.env.kindOf x=some .globalImplicit
def si {E:Ab->Ad->Prop}{pins:List (Ae×Obj)}{s:Ad}{B:St}{H:Hp}{x:Str}{u:Ab}{pos:Pos}{Q:Ab->Ad->Prop}(I:Inv X pins B H s)(hg:Gl X x)(hm:X.mg x=some u)(h:Q u s)
  (hd:(x == ("__debug__":Str))=false:=by decide):Aj (Al X.prog X.w) X.A (eval (.Name x pos) X.env) Q E s:=
 Calls.Name_function_global I.ok.kind hg (Calls.loadGlobal_global (by rw[I.ok.glob];exact I.mod.glob.keeps I.bk) hm h) hd
def yR {E:Ab->Ad->Prop}{pins:List (Ae×Obj)}{s:Ad}{B:St}{H:Hp}{x:Str}{u:Ab}{pos:Pos}{Q:Ab->Ad->Prop}(I:Inv X pins B H s)(hg:Gl X x)(hm:X.mg x=none)(a:bootBuiltins x=some u)(h:Q u s)
  (hn:x≠"__name__":=by decide) (hd:(x == ("__debug__":Str))=false:=by decide):Aj (Al X.prog X.w) X.A (eval (.Name x pos) X.env) Q E s:=by
 obtain⟨mb,h1,h2⟩:=I.mod.blt;exact Calls.Name_function_global I.ok.kind hg (Calls.loadGlobal_builtin (by rw[I.ok.glob];exact I.mod.glob.keeps I.bk) hm (by rw[I.ok.blt];exact h1.keeps I.bk) ((h2 x hn).trans a) h) hd
def zm2 {x:Str}{v:V}{u:Ab}{pos:Pos}(hg:Gl X x)(hm:X.mg x=some u)(r:RelV v u)(hd:(x == ("__debug__":Str))=false:=by decide):PE X (.Name x pos) (tC v):=
 λ_ _ _ H _ I h=>si I hg hm ⟨v,H,I,r,h⟩ hd
def zp7 {x:Str}{v:V}{u:Ab}{pos:Pos}(hg:Gl X x)(hm:X.mg x=none)(a:bootBuiltins x=some u)(r:RelV v u)(hn:x≠"__name__":=by decide)(hd:(x == ("__debug__":Str))=false:=by decide):PE X (.Name x pos) (tC v):=
 λ_ _ _ H _ I h=>yR I hg hm a ⟨v,H,I,r,h⟩ hn hd
variable {a b:Ak}{ta tb:TE}{pos:Pos}
def tB (t:TE):TT:=λB H Q=>t B H λx H1=>∃c,x=.bl c/\Q c H1
def zH4 {e:Ak}{t:TE}(h:PE X e t)(he:∀whole,isTrue e X.env whole=(do let v <-whole;standAt e.pos;holding [v] (truthy v)):=by intro _;rfl):PT X e (tB t):=by
 intro pins s B H Q I hw;refine isTrue_plain (thn (h pins s B H _ I hw) λv s1 c=>?_) (he _);obtain⟨x,H1,g,i,f⟩:=c;obtain⟨d,rfl,q⟩:=f;cases i;exact z50 ⟨H1,g,q⟩
variable {tA tB':TT}{rest:List Ak}
def zV8 (t u:TT):TT:=λB H Q=>t B H λc H1=>if c=true then u B H1 Q else Q false H1
def tOr (t u:TT):TT:=λB H Q=>t B H λc H1=>if c=true then Q true H1 else u B H1 Q
def zW7 (t:TT):TT:=λB H Q=>t B H λc H1=>Q (!c) H1
theorem jT (ha:PT X a tA):PW X (.BoolOp .And [a] pos) tA:=by
 intro d pins s B H Q I h;refine isTrue_and (thn (ha pins s B H Q I h) λc s1 e=>?_);cases c with
 |true=>exact isTrue_and_nil e
 |false=>exact e
theorem zD3 (ha:PT X a tA):PW X (.BoolOp .Or [a] pos) tA:=by
 intro d pins s B H Q I h;refine isTrue_or (thn (ha pins s B H Q I h) λc s1 e=>?_);cases c with
 |false=>exact isTrue_or_nil e
 |true=>exact e
theorem zd9 (ha:PT X a tA)(hb:PW X (.BoolOp .And (b::rest) pos) tB'):PW X (.BoolOp .And (a::b::rest) pos) (zV8 tA tB'):=by
 intro g pins s B H Q I h;refine isTrue_and (thn (ha pins s B H _ I h) λc s1 d=>?_);obtain⟨H1,f,e⟩:=d;cases c with
 |true=>exact hb g pins s1 B H1 Q f e
 |false=>exact⟨H1,f,e⟩
theorem zN3 (ha:PT X a tA)(hb:PW X (.BoolOp .Or (b::rest) pos) tB'):PW X (.BoolOp .Or (a::b::rest) pos) (tOr tA tB'):=by
 intro g pins s B H Q I h;refine isTrue_or (thn (ha pins s B H _ I h) λc s1 d=>?_);obtain⟨H1,f,e⟩:=d;cases c with
 |true=>exact⟨H1,f,e⟩
 |false=>exact hb g pins s1 B H1 Q f e
def zG6 (ha:PT X a tA):PT X (.UnaryOp .Not a pos) (zW7 tA):=by
 intro pins s B H Q I h;exact isTrue_not (ha pins s B H (λc H1=>Q (!c) H1) I h)
def zO9 (ta tb:TE):TE:=λB H Q=>ta B H λx H1=>∃c,x=.bl c/\if c=true then tb B H1 Q else Q (.bl false) H1
def zZ0 (ta tb:TE):TE:=λB H Q=>ta B H λx H1=>∃c,x=.bl c/\if c=true then Q (.bl true) H1 else tb B H1 Q
def zR9 (ta:TE):TE:=λB H Q=>ta B H λx H1=>∃c,x=.bl c/\Q (.bl (!c)) H1
def zC7 {op}{t:TE}(h:PE X a t):PE X (.BoolOp op [a] pos) t:=λpins s B H Q I hw=>BoolOp_one (h pins s B H Q I hw)
theorem zG5 (ha:PE X a ta)(hb:PE X (.BoolOp .And (b::rest) pos) tb):PE X (.BoolOp .And (a::b::rest) pos) (zO9 ta tb):=by
 intro pins s B H Q I h;refine BoolOp_and (thn (ha pins s B H _ I h) λv s1 d=>?_);obtain⟨x,H1,f,g,e⟩:=d;obtain⟨c,rfl,e⟩:=e;cases g;refine z50 ?_;cases c with
 |true=>exact hb pins s1 B H1 Q f e
 |false=>exact⟨.bl false,H1,f,rfl,e⟩
theorem zN6 (ha:PE X a ta)(hb:PE X (.BoolOp .Or (b::rest) pos) tb):PE X (.BoolOp .Or (a::b::rest) pos) (zZ0 ta tb):=by
 intro pins s B H Q I h;refine BoolOp_or (thn (ha pins s B H _ I h) λv s1 d=>?_);obtain⟨x,H1,f,g,e⟩:=d;obtain⟨c,rfl,e⟩:=e;cases g;refine z50 ?_;cases c with
 |false=>exact hb pins s1 B H1 Q f e
 |true=>exact⟨.bl true,H1,f,rfl,e⟩
def zI2 (ha:PE X a ta):PE X (.UnaryOp .Not a pos) (zR9 ta):=by
 intro pins s B H Q I h;refine UnaryOp_ (thn (ha pins s B H _ I h) λv s1 d=>?_);obtain⟨x,H1,g,f,e⟩:=d;obtain⟨c,rfl,e⟩:=e;cases f;exact not_of (z50 ⟨.bl (!c),H1,g,rfl,e⟩)
def tIf (t:TT)(ta tb:TE):TE:=λB H Q=>t B H λc H1=>if c=true then ta B H1 Q else tb B H1 Q
theorem bC {c:Ak}(i:PT X c tA)(ha:PE X a ta)(hb:PE X b tb):PE X (.IfExp c a b pos) (tIf tA ta tb):=by
 intro pins s B H Q I h;refine wpAny_IfExp (thn (i pins s B H _ I h) λd s1 e=>?_);obtain⟨H1,g,f⟩:=e;cases d with
 |true=>exact ha pins s1 B H1 Q g f
 |false=>exact hb pins s1 B H1 Q g f
end
def SqL (K:Ac)(H:Hp)(a:Ae)(xs:List V):Prop:=
 Rd H a (.lst xs)\/
  ∃(o:Obj) (b:Array Ab) (n:Nat),K.lookup a=some o/\o.cls=.type "list"/\o.dict=none/\o.data=.seq b n/\b.size<=sizeLine/\Vals xs b.toList
def SqT (K:Ac)(H:Hp)(a:Ae)(xs:List V):Prop:=
 Rd H a (.tup xs)\/
  ∃(o:Obj) (b:Array Ab) (n:Nat),K.lookup a=some o/\o.cls=.type "tuple"/\o.data=.seq b n/\b.size<=sizeLine/\Vals xs b.toList
noncomputable def zV3 :Ab->Option V
 |.none=>some .non
 |.bool b=>some (.bl b)
 |.int i _=>some (.int i)
 |.str x _=>some (.str x)
 |.bytes b _=>some (.byt b)
 |.float b _=>some (.flt b)
 |.ref a=>some (.ref a)
 |.type n=>some (.ty n)
 |_=>none
theorem RelV.abs {x:V}{u:Ab}(r:RelV x u):zV3 u=some x:=by
 cases x with
 |non=>cases r;rfl
 |bl _=>cases r;rfl
 |int _=>obtain⟨t,rfl⟩:=r;rfl
 |str _=>obtain⟨t,rfl⟩:=r;rfl
 |byt _=>obtain⟨t,rfl⟩:=r;rfl
 |flt _=>obtain⟨t,rfl⟩:=r;rfl
 |ref _=>cases r;rfl
 |ty _=>cases r;rfl
def RelV.inj {x y:V}{u:Ab}(r:RelV x u)(q:RelV y u):x=y:=z34 (r.abs.symm.trans q.abs)
theorem Vals.inj {xs ys:List V}{us:List Ab}(h:Vals xs us)(k:Vals ys us):xs=ys:=by
 induction h generalizing ys with
 |nil=>cases k;rfl
 |cons r _ b=>cases k with
  |cons a t'=>rw[r.inj a,b t']
section
variable {X:Cx}{pins:List (Ae×Obj)}{B:St}{H:Hp}{s:Ad}{a:Ae}{xs ys:List V}
def SqL.of {K:Ac}(h:H a=some (.lst xs)):SqL K H a xs:=.inl (.inl h)
def SqT.of {K:Ac}(h:H a=some (.tup xs)):SqT K H a xs:=.inl (.inl h)
def Inv.list (I:Inv X pins B H s)(h:SqL X.K H a xs):∃b:List Ab,Vals xs b/\PlainL s.heap a b.toArray/\xs.length<=sizeLine:=by
 rcases h with h|⟨o,b,n,hk,f,hd,c,d,r⟩
 .obtain⟨z,b,n,r,e⟩:=h.ok I.hok;exact⟨b,r,⟨_,n,e,rfl,rfl,rfl⟩,z⟩
 .refine⟨b.toList,r,⟨o,n,I.kIn a o hk,f,hd,by simpa using c⟩,?_⟩;have e:=r.length;simp only[ye6]at e;exact z05 (z26 e) d
def Inv.tuple (I:Inv X pins B H s)(h:SqT X.K H a xs):∃b:List Ab,Vals xs b/\IsTup s.heap a b.toArray/\xs.length<=sizeLine:=by
 rcases h with h|⟨o,b,n,hk,f,c,d,r⟩
 .obtain⟨z,b,r,p⟩:=h.ok I.hok;exact⟨b,r,p,z⟩
 .refine⟨b.toList,r,⟨o,I.kIn a o hk,f,n,by simpa using c⟩,?_⟩;have e:=r.length;simp only[ye6]at e;exact z05 (z26 e) d
def Inv.list_inj (I:Inv X pins B H s)(h:SqL X.K H a xs)(h':SqL X.K H a ys):xs=ys:=by
 obtain⟨c,r,⟨o,n,e,_,_,d⟩,_⟩:=I.list h;obtain⟨b,i,⟨o',j,f,_,_,d'⟩,_⟩:=I.list h';rw[e]at f;cases f;rw[d]at d';injection d' with g _;have:c=b:=by simpa using congrArg Array.toList g
 subst this;exact r.inj i
def Inv.tuple_inj (I:Inv X pins B H s)(h:SqT X.K H a xs)(h':SqT X.K H a ys):xs=ys:=by
 obtain⟨c,r,⟨o,e,_,n,d⟩,_⟩:=I.tuple h;obtain⟨b,i,⟨o',f,_,j,d'⟩,_⟩:=I.tuple h';rw[e]at f;cases f;rw[d]at d';injection d' with g _;have:c=b:=by simpa using congrArg Array.toList g
 subst this;exact r.inj i
end
noncomputable abbrev Cx.wish (X:Cx)(E:Ab->Ad->Prop):Cx:={X with xe:=E}
noncomputable abbrev Cx.nox (X:Cx):Cx:=X.wish λ_ _=>False
theorem Cx.Ok.wish {X:Cx}(ok:X.Ok)(E:Ab->Ad->Prop):(X.wish E).Ok:=
 ⟨ok.mod,ok.kind,ok.glob,ok.blt,ok.above,ok.inj,ok.has,ok.cab,ok.hd,ok.frames,ok.stk,ok.exf,ok.bs,ok.bsz,ok.noex,ok.exfs,ok.funs,ok.frf⟩
def Cx.Ok.unwish {X:Cx}{E:Ab->Ad->Prop}(ok:(X.wish E).Ok):X.Ok:=
 ⟨ok.mod,ok.kind,ok.glob,ok.blt,ok.above,ok.inj,ok.has,ok.cab,ok.hd,ok.frames,ok.stk,ok.exf,ok.bs,ok.bsz,ok.noex,ok.exfs,ok.funs,ok.frf⟩
section
variable {X:Cx}{pins:List (Ae×Obj)}{B:St}{H:Hp}{s:Ad}{E:Ab->Ad->Prop}
theorem Inv.wish (I:Inv X pins B H s)(E:Ab->Ad->Prop):Inv (X.wish E) pins B H s:=⟨I.ok.wish E,I.os,I.bare,I.base,I.loc,I.cell,I.free,I.freeC,I.pin,I.hok,I.len⟩
theorem Inv.unwish (I:Inv (X.wish E) pins B H s):Inv X pins B H s:=⟨I.ok.unwish,I.os,I.bare,I.base,I.loc,I.cell,I.free,I.freeC,I.pin,I.hok,I.len⟩
theorem SP.unwish {D:Ends}{f:Flow}{s':Ad}(h:SP (X.wish E) pins D f s'):SP X pins D f s':=by
 cases f with
 |next=>obtain⟨a,H',I,q⟩:=h;exact⟨a,H',I.unwish,q⟩
 |brk=>obtain⟨a,H',I,q⟩:=h;exact⟨a,H',I.unwish,q⟩
 |cont=>obtain⟨a,H',I,q⟩:=h;exact⟨a,H',I.unwish,q⟩
 |ret u=>obtain⟨v,a,H',I,r,q⟩:=h;exact⟨v,a,H',I.unwish,r,q⟩
theorem PSs.nox {st:List An}{t:TS}(h:PSs X.nox st t):PSs X st t:=λpins s B H D I hw=>
 z60 (h pins s B H D (I.wish _) hw) (λ_ _ q=>q.unwish) λ_ _ z=>False.elim z
end
section
variable {X:Cx}{st:An}{rest:List An}{t u:TS}{e:Ak}{te:TE}{pos:Pos}
def zK7 :TS:=λD B H=>D.nx B H
def zL3 (t u:TS):TS:=λD B H=>t {D with nx:=u D} B H
def oh :PSs X [] zK7:=λ_ _ B H _ I h=>yi2 ⟨B,H,I,h⟩
theorem zJ (h1:PS X st t)(h2:PSs X rest u):PSs X (st::rest) (zL3 t u):=by
 intro pins s B H D I h;refine wpAny_execs_cons (thn (h1 pins s B H {D with nx:=u D} I h) λf s1 q=>?_);cases f with
 |next=>
  obtain⟨a,H',b,q⟩:=q;exact h2 pins s1 a H' D b q
 |ret v=>exact q
 |brk=>exact q
 |cont=>exact q
theorem wq (h1:PS X st t):PSs X [st] t:=by
 intro pins s B H D I h;refine wpAny_execs_cons (thn (h1 pins s B H D I h) λf s1 q=>?_);cases f with
 |next=>exact yi2 q
 |ret v=>exact q
 |brk=>exact q
 |cont=>exact q
def Inv.quiet {pins:List (Ae×Obj)}{B:St}{H:Hp}{s:Ad}(I:Inv X pins B H s):interactive X.env=false:=by simp[interactive,I.ok.kind]
def zO5 (te:TE):TS:=λD B H=>te B H λ_ H1=>D.nx B H1
def ik (he:PE X e te)(c:swapsWith e none pos.line X.env=pure false:=by rfl):PS X (.Expr e pos) (zO5 te):=by
 intro pins s B H D I h;exact wpAny_Expr_any (thn (he pins s B H _ I h) λv s1 a=>by obtain⟨x,H1,d,f,b⟩:=a;exact⟨B,H1,d,b⟩) I.quiet c
def zW2 (te:TE):TS:=λD B H=>te B H D.rt
def vI (he:PE X e te):PS X (.Return (some e) pos) (zW2 te):=by
 intro pins s B H D I h;exact wpAny_Return_some (thn (he pins s B H _ I h) λv s1 a=>by obtain⟨x,H1,d,c,b⟩:=a;exact⟨x,B,H1,d,c,b⟩)
def zV0 (c:TT)(t u:TS):TS:=λD B H=>c B H λb H1=>if b=true then t D B H1 else u D B H1
theorem ze1 {c:Ak}{a b:List An}{i:TT}(k:PT X c i)(ha:PSs X a t)(hb:PSs X b u):PS X (.If c a b pos) (zV0 i t u):=by
 intro pins s B H D I h;refine wpAny_If (thn (k pins s B H _ I h) λd s1 f=>?_);obtain⟨H1,j,g⟩:=f;cases d with
 |true=>exact ha pins s1 B H1 D j g
 |false=>exact hb pins s1 B H1 D j g
end
abbrev TG :=V->St->Hp->(St->Hp->Prop)->Prop
abbrev TGs :=List V->St->Hp->(St->Hp->Prop)->Prop
def PG (X:Cx)(target:Ak)(t:TG):Prop:=
 ∀(pins:List (Ae×Obj)) (s:Ad) (B:St) (H:Hp) (v:V) (u:Ab) (Q:St->Hp->Prop),Inv X pins B H s->RelV v u->t v B H Q->
  Aj (Al X.prog X.w) X.A (assign target X.env u) (λ_ s'=>∃a H',Inv X pins a H' s'/\Q a H') X.xe s
def PGs (X:Cx)(ts:List Ak)(t:TGs):Prop:=
 ∀(pins:List (Ae×Obj)) (s:Ad) (B:St) (H:Hp) (vs:List V) (us:List Ab) (Q:St->Hp->Prop),Inv X pins B H s->Vals vs us->t vs B H Q->
  Aj (Al X.prog X.w) X.A (assignInOrder ((assignEach ts X.env).map (·.2)) us) (λ_ s'=>∃a H',Inv X pins a H' s'/\Q a H') X.xe s
abbrev zG9 :=V->V->V->Hp->(Hp->Prop)->Prop
def zM4 (X:Cx)(t:zG9):Prop:=
 ∀(pins:List (Ae×Obj)) (s:Ad) (B:St) (H:Hp) (o i v:V) (b a u:Ab) (Q:Hp->Prop),Inv X pins B H s->RelV o b->RelV i a->RelV v u->t o i v H Q->
  Aj (Al X.prog X.w) X.A (setItem b a u) (λ_ s'=>∃H',Inv X pins B H' s'/\Q H') X.xe s
section
variable {X:Cx}{pos:Pos}
def pd (i:Nat):TG:=λv B H Q=>Q (B.set i (some v)) H
def yj {i:Nat}{x:Str}(a:X.N.Nodup)(hi:X.N[i]?=some x)(c:Loc X.env.scope x)(hf:X.fn x=true\/X.env.scope.names.lookup x=some .local:=by first|exact .inl rfl|exact .inr rfl|assumption):PG X (.Name x pos) (pd i):=by
 intro pins s B H v u Q I r h;exact wpAny_assign_Name (my I a hi c r (λs' b=>⟨_,H,b,h⟩) hf)
def zG3 :TGs:=λvs B H Q=>vs=[]/\Q B H
def jH (t:TG)(u:TGs):TGs:=λvs B H Q=>∃v r,vs=v::r/\t v B H λa H'=>u r a H' Q
def su :PGs X [] zG3:=by
 intro pins s B H vs us Q I r h;obtain⟨e,h⟩:=h;subst e;cases r;exact assignInOrder_nil ⟨B,H,I,h⟩
theorem vj {e:Ak}{b:List Ak}{t:TG}{u:TGs}(h1:PG X e t)(h2:PGs X b u)
  (d:(assignEach (e::b) X.env).map (·.2)=assign e X.env::(assignEach b X.env).map (·.2):=by rfl):PGs X (e::b) (jH t u):=by
 intro pins s B H vs us Q I r h;obtain⟨v,j,e1,h⟩:=h;subst e1;cases r with
 |cons r g=>
  rw[d];refine assignInOrder_cons (thn (h1 pins s B H _ _ _ I r h) λ_ s1 a=>?_);obtain⟨c,H1,i,f⟩:=a;exact h2 pins s1 c H1 _ _ Q i g f
def cp (K:Ac)(n:Nat)(t:TGs):TG:=λv B H Q=>∃a xs,v=.ref a/\SqT K H a xs/\xs.length=n/\t xs B H Q
def zG2 {c:List Ak}{k:Nat}{t:TGs}{n:Nat}(j:X.calm=true)(h:PGs X c t)
  (hn:(assignEach c X.env).length=n:=by rfl) (d:(assignEach c X.env).findIdx? (·.1)=none:=by rfl):PG X (.Tuple c k pos) (cp X.K n t):=by
 intro pins s B H v u Q I r hw;obtain⟨a,xs,e1,hq,g,hw⟩:=hw;subst e1;cases r;obtain⟨m,f,l,p⟩:=I.tuple hq;refine assign_Tuple_tuple (I.ok.hd j) l (by simp[hn,<-g,f.length]) d λh' i=>?_;exact h pins _ B H xs _ Q (I.kept λb o e=>i b o (z30 (z07 e)) e) (by simpa using f) hw
def zL6 (to ti:TE)(t:zG9):TG:=λv B H Q=>to B H λo H1=>ti B H1 λi b=>t o i v b λa=>Q B a
def kW {o i:Ak}{to ti:TE}{t:zG9}(w:PE X o to)(hi:PE X i ti)(m:zM4 X t)
  (ha:∀v,assign (.Subscript o i pos) X.env v=(do
   let a <-holding [v] (eval o X.env)
   let c <-holding [v,a] (eval i X.env)
   standAt pos
   holding [v,a,c] (setItem a c v)
   release [v,a,c] []):=by intro _;rfl):PG X (.Subscript o i pos) (zL6 to ti t):=by
 intro pins s B H v u Q I r h;rw[ha];refine zZ3 (z72 (thn (w pins s B H _ I h) λa s1 d=>?_));obtain⟨x,H1,z,k,f⟩:=d;refine zZ3 (z72 (thn (hi pins s1 B H1 _ z f) λc s2 b=>?_));obtain⟨y,A,q,p,j⟩:=b;refine zZ3 (wpAny_standAt (zZ3 (z72 (thn (m pins s2 B A x y v a c u _ q k p r j) λ_ s3 e=>?_))));obtain⟨l,g,n⟩:=e;exact wpAny_release ⟨B,l,g,n⟩
def zC4 (a:TE)(g:TG):TS:=λD B H=>a B H λx H1=>g x B H1 D.nx
def lM {tg e:Ak}{b:TE}{g:TG}(he:PE X e b)(hg:PG X tg g)(c:swapsWithSole [tg] e pos.line X.env=pure false:=by rfl)(hw:swappedStores [tg] e X.env=pure none:=by rfl)
  (h1:(assignEach [tg] X.env).map (·.2)=[assign tg X.env]:=by rfl):PS X (.Assign [tg] e pos) (zC4 b g):=by
 intro pins s B H D I h;refine wpAny_Assign_stores (thn (he pins s B H _ I h) λv s1 a=>?_) c hw;obtain⟨x,H1,f,i,d⟩:=a;rw[h1];exact thn (hg pins s1 B H1 x v _ f i d) λ_ s2 q=>q
def wk {i:Nat}{x:Str}{e:Ak}{b:TE}{pos':Pos}(f:X.N.Nodup)(hi:X.N[i]?=some x)(g:Loc X.env.scope x)(he:PE X e b)(c:swapsWith e (some (.Name x pos')) pos.line X.env=pure false:=by rfl)(hf:X.fn x=true\/X.env.scope.names.lookup x=some .local:=by first|exact .inl rfl|exact .inr rfl|assumption):
  PS X (.Assign [.Name x pos'] e pos) (zC4 b (pd i)):=by
 intro pins s B H D I h;refine wpAny_Assign_Name (thn (he pins s B H _ I h) λv s1 a=>?_) c;obtain⟨y,H1,j,l,d⟩:=a;exact my j f hi g l (λs2 k=>⟨_,H1,k,d⟩) hf
end
section
variable {X:Cx}{pos:Pos}
def zG1 (c:TT)(e:TS):TS:=λD B H=>∃W:Nat->St->Hp->Prop,(∃m,W m B H)/\∀m B H,W m B H->
 c B H λb H1=>if b=true then ∃N:St->Hp->Prop,(∀a H',N a H'->∃d,d<m/\W d a H')/\e {D with nx:=N,ct:=N,bk:=D.nx} B H1 else D.nx B H1
theorem nL {c:Ak}{body:List An}{r:TT}{q:TS}(t:PassesOwn (Al X.prog X.w) X.A X.env X.xe)(z:PT X c r)(hb:PSs X body q):PS X (.While c body [] pos) (zG1 r q):=by
 intro pins s B H D I h;obtain⟨W,⟨m0,C⟩,turn⟩:=h;refine wpAny_While (codeAny_whileLoop (λn s'=>∃i H',Inv X pins i H' s'/\W n i H') ?_ m0 ⟨B,H,I,C⟩);rintro n s1 ⟨d,H1,F,E⟩;refine yb3 t (thn (z pins s1 d H1 _ F (turn n d H1 E)) λb s2 e=>?_);obtain⟨y,x,j⟩:=e;cases b with
 |true=>
  obtain⟨N,u,j⟩:=j;rw[if_pos rfl];refine yb3 t (thn (hb pins s2 d y _ x j) λf s3 k=>?_);cases f with
  |next=>
   obtain⟨a,g,l,o⟩:=k;obtain⟨p,hm,m⟩:=u a g o;exact⟨p,hm,a,g,l,m⟩
  |cont=>
   obtain⟨a,g,l,o⟩:=k;obtain⟨p,hm,m⟩:=u a g o;exact⟨p,hm,a,g,l,m⟩
  |brk=>exact k
  |ret v=>exact k
 |false=>
  rw[if_neg z32];exact yi2 ⟨d,y,x,j⟩
end
structure It where
 go:Nat->Hp->Prop
 yld:Nat->Hp->V->Hp->Prop
 stop:Nat->Hp->Prop
def xg (X:Cx)(pins:List (Ae×Obj))(H:Hp)(b:Ae):Prop:=
 H b=none/\b≠X.env.locals/\b∉X.fs/\(b∈X.ex\/X.s₀.heap.objs.size<=b)/\(∀x c,X.env.cells.lookup x=some c->c≠b)/\∀p∈X.pn++pins,p.1≠b
def Inv.fpOk {X:Cx}{pins:List (Ae×Obj)}{B:St}{H H':Hp}{s:Ad}{b:Ae}(I:Inv X pins B H s)(hb:s.heap.objs.size<=b)(hn:H' b=none):xg X pins H' b:=by
 refine⟨hn,yb1 (zZ7 I.lt hb),I.nofs hb,.inr (z05 I.sz hb),λx c e z=>?_,λp a z=>?_⟩
 .obtain⟨v,q⟩:=I.cell x c e;exact absurd (zZ7 q.lt (by rw[z];exact hb)) (z56 _)
 .exact absurd (zZ7 (z07 (I.pin p a).1) (by rw[z];exact hb)) (z56 _)
structure Turn (P:Ag)(w:Ai)(K:Ac)(tg:Ak)(J:It)(fp:List Ae)(it:Ae)(tn:Nat->Ao->Prop):Prop where
 mem:it∈fp
 obj:∀i h,tn i h->∀b∈fp,∃o,h.get? b=some o/\∀v,o.data≠.cell v
 keep:∀i h h',tn i h->(∀b∈fp,∀o,h.get? b=some o->h'.get? b=some o)->tn i h'
 item:∀(X:Cx),X.prog=P->X.w=w->X.K=K->X.calm=true->∀(i:Nat) (pins:List (Ae×Obj)) (s:Ad) (B:St) (H:Hp) (E:Ab->Ad->Prop),Inv X pins B H s->(∀b∈fp,xg X pins H b)->tn i s.heap->J.go i H->
  Aj (Al P w) X.A (pyNext (.ref it)) (λr s1=>∃u,r=some u/\
   Aj (Al P w) X.A (letOwnedTupleGo tg (.ref it) u) (λ_ s2=>∃x H',Inv X pins B H' s2/\RelV x u/\J.yld i H x H'/\tn (i+1) s2.heap/\∀b∈fp,H' b=none) E s1) E s
 done:∀(X:Cx),X.prog=P->X.w=w->X.K=K->X.calm=true->∀(i:Nat) (pins:List (Ae×Obj)) (s:Ad) (B:St) (H:Hp) (E:Ab->Ad->Prop),Inv X pins B H s->(∀b∈fp,xg X pins H b)->tn i s.heap->J.stop i H->
  Aj (Al P w) X.A (pyNext (.ref it)) (λr s1=>r=none/\Inv X pins B H s1) E s
 self:∀(A:Am) (i:Nat) (s:Ad) (Q:Ab->Ad->Prop) (E:Ab->Ad->Prop),tn i s.heap->Q (.ref it) s->Aj (Al P w) A (pyIter (.ref it)) Q E s
abbrev TI :=St->Hp->(It->Hp->Prop)->Prop
def PIE (X:Cx)(pins:List (Ae×Obj))(B:St)(tg:Ak)(R:It->Hp->Prop)(a:Ab)(s2:Ad):Prop:=
 ∃(it:Ae) (fp:List Ae) (tn:Nat->Ao->Prop) (J:It) (H':Hp),a=.ref it/\Inv X pins B H' s2/\Turn X.prog X.w X.K tg J fp it tn/\tn 0 s2.heap/\(∀b∈fp,xg X pins H' b)/\R J H'
def PI (X:Cx)(tg iter:Ak)(a:TI):Prop:=
 ∀(pins:List (Ae×Obj)) (s:Ad) (B:St) (H:Hp) (R:It->Hp->Prop),Inv X pins B H s->a B H R->
  Aj (Al X.prog X.w) X.A (eval iter X.env) (λv s1=>Aj (Al X.prog X.w) X.A (pyIter v) (PIE X pins B tg R) X.xe s1) X.xe s
def qU {M:Model}{A:Am}{E:Ab->Ad->Prop}{s:Ad}{tg:Ak}{it:Ae}{u:Ab}{o:Obj}{n:String}{vs:Array Ab}{Q:Unit->Ad->Prop}(b:s.heap.get? it=some o)(c:o.cls=.type n)(hd:o.data=.fields vs)
  (hn:["enumerate","zip","dict_itemiterator","dict_reverseitemiterator","odict_iterator","itertools.zip_longest","itertools.pairwise"].contains n=false) (a:Q () s):Aj M A (letOwnedTupleGo tg (.ref it) u) Q E s:=by
 unfold letOwnedTupleGo;cases tg<;>first
  |exact z02 a
  |(cases u<;>first
    |exact z02 a
    |(refine zZ3 (wpAny_load b ?_)
      rw[c,hd];show Aj M A (if(["enumerate","zip","dict_itemiterator","dict_reverseitemiterator","odict_iterator","itertools.zip_longest","itertools.pairwise"].contains n&&vs[0]? == some (rawInt _))=true then _ else _) Q E s;rw[if_neg (by intro h;rw[hn,z46]at h;cases h)];exact z02 a))
def Itl (K:Ac)(a:Ae):It:=
 ⟨λi H=>∃xs x,SqL K H a xs/\xs[i]?=some x,λi H x H'=>H'=H/\∀xs,SqL K H a xs->xs[i]?=some x,λi H=>∃xs,SqL K H a xs/\xs.length<=i⟩
def Itt (K:Ac)(a:Ae):It:=
 ⟨λi H=>∃xs x,SqT K H a xs/\xs[i]?=some x,λi H x H'=>H'=H/\∀xs,SqT K H a xs->xs[i]?=some x,λi H=>∃xs,SqT K H a xs/\xs.length<=i⟩
def Itr (lo:Int)(n:Nat):It:=⟨λi _=>i<n,λi H x H'=>H'=H/\x=.int (lo+i),λi _=>n<=i⟩
def fY {P:Ag}{w:Ai}{K:Ac}{tg:Ak}(a it:Ae):Turn P w K tg (Itl K a) [it] it (λi h=>h.IsListIter it a i) where
 mem:=by simp
 obj:=λi h st b hb=>by
  have e:b=it:=by simpa using hb
  subst e;obtain⟨o,e,c,d⟩:=st;exact⟨o,e,λv z=>by rw[d]at z;cases z⟩
 keep:=λi h h' st k=>st.at λo e=>k it (by simp) o e
 item:=by
  intro X q hw m t i pins s B H E I hf st hg;subst q hw m;obtain⟨xs,x,hq,g⟩:=hg;obtain⟨l,r,p,F⟩:=I.list hq;obtain⟨u,C,D⟩:=r.get g;obtain⟨f0,f1,f2,j,f4,n⟩:=hf it (by simp);refine wpAny_pyNext_list_item st p.isList (by simpa using C) λh' f A=>?_;obtain⟨o,e,c,d⟩:=id f;exact⟨u,rfl,qU e c d (by decide) ⟨x,H,(I.turned (λb o hb e=>(A.2 b hb).trans e) f0 f1 j f4 n),D,⟨rfl,λys hy=>by rw[I.list_inj hy hq];exact g⟩,f,λb hb=>(hf b hb).1⟩⟩
 done:=by
  intro X q hw m t i pins s B H E I hf st hg;subst q hw m;obtain⟨xs,hq,g⟩:=hg;obtain⟨l,r,p,F⟩:=I.list hq;obtain⟨f0,f1,f2,j,f4,n⟩:=hf it (by simp);exact wpAny_pyNext_list_end (I.ok.hd t) st p.isList (by simp;exact z05 (z26 r.length.symm) g) λh' y=>⟨rfl,I.turned (λb o hb e=>y b o hb e) f0 f1 j f4 n⟩
 self:=λ_ _ _ _ _ st h=>wpAny_pyIter_listiter st h
def lH {P:Ag}{w:Ai}{K:Ac}{tg:Ak}(a it:Ae):Turn P w K tg (Itt K a) [it] it (λi h=>h.IsTupleIter it a i) where
 mem:=by simp
 obj:=λi h st b hb=>by
  have e:b=it:=by simpa using hb
  subst e;obtain⟨o,e,c,d⟩:=st;exact⟨o,e,λv z=>by rw[d]at z;cases z⟩
 keep:=λi h h' st k=>st.at λo e=>k it (by simp) o e
 item:=by
  intro X q hw m t i pins s B H E I hf st hg;subst q hw m;obtain⟨xs,x,hq,g⟩:=hg;obtain⟨l,r,p,F⟩:=I.tuple hq;obtain⟨u,C,D⟩:=r.get g;obtain⟨f0,f1,f2,j,f4,n⟩:=hf it (by simp);refine wpAny_pyNext_tuple_item st (p) (by simpa using C) λh' f A=>?_;obtain⟨o,e,c,d⟩:=id f;exact⟨u,rfl,qU e c d (by decide) ⟨x,H,(I.turned (λb o hb e=>(A.2 b hb).trans e) f0 f1 j f4 n),D,⟨rfl,λys hy=>by rw[I.tuple_inj hy hq];exact g⟩,f,λb hb=>(hf b hb).1⟩⟩
 done:=by
  intro X q hw m t i pins s B H E I hf st hg;subst q hw m;obtain⟨xs,hq,g⟩:=hg;obtain⟨l,r,p,F⟩:=I.tuple hq;obtain⟨f0,f1,f2,j,f4,n⟩:=hf it (by simp);exact wpAny_pyNext_tuple_end (I.ok.hd t) st (p) (by simp;exact z05 (z26 r.length.symm) g) λh' y=>⟨rfl,I.turned (λb o hb e=>y b o hb e) f0 f1 j f4 n⟩
 self:=λ_ _ _ _ _ st h=>wpAny_pyIter_tupleiter st h
def lB {P:Ag}{w:Ai}{K:Ac}{tg:Ak}(it:Ae)(lo:Int)(n:Nat):Turn P w K tg (Itr lo n) [it] it (λi h=>IsRangeIter h it (lo+(i:Nat)*1) ((n:Int)-(i:Nat)) 1) where
 mem:=by simp
 obj:=λi h st b hb=>by
  have e:b=it:=by simpa using hb
  subst e;exact⟨_,st,λv z=>by
   have l:=z;cases l⟩
 keep:=λi h h' st k=>k it (by simp) _ st
 item:=by
  intro X j hw g d i pins s B H E I hf st hg;subst j hw g;obtain⟨f0,f1,f2,c,f4,f⟩:=hf it (by simp);refine(Walks.range (I.ok.hd d) it lo 1 n).item i s _ _ hg st λv h' r q a m=>?_;obtain⟨t,rfl⟩:=q;have u:Inv X pins B H {s with heap:=h',toks:=r}:=I.turned (λb o hb e=>m b o (by simpa using hb) e) f0 f1 c f4 f;refine⟨_,rfl,qU a rfl rfl (by decide) ⟨.int (lo+i),H,u,⟨t,?_⟩,⟨rfl,rfl⟩,a,λb hb=>(hf b hb).1⟩⟩;rw[Int.mul_one]
 done:=by
  intro X j hw g d i pins s B H E I hf st hg;subst j hw g;obtain⟨f0,f1,f2,c,f4,f⟩:=hf it (by simp);exact wpAny_pyNext_range_end (I.ok.hd d) st (by have:n<=i:=hg;exact zR2 this) λh' p=>⟨rfl,I.turned (λb o hb e=>p b o hb e) f0 f1 c f4 f⟩
 self:=λ_ _ _ _ _ st h=>wpAny_pyIter_rangeiter st h
section
variable {X:Cx}{tg:Ak}
def zR1 (K:Ac)(b:TE):TI:=λB H R=>b B H λx H1=>∃a,x=.ref a/\(∃xs,SqL K H1 a xs)/\R (Itl K a) H1
def zY0 (K:Ac)(b:TE):TI:=λB H R=>b B H λx H1=>∃a,x=.ref a/\(∃xs,SqT K H1 a xs)/\R (Itt K a) H1
def jI {l:Ak}{f:TE}(g:PE X l f):PI X tg l (zR1 X.K f):=by
 intro pins s B H R I h;refine thn (g pins s B H _ I h) λv s1 c=>?_;obtain⟨x,H1,d,j,i⟩:=c;obtain⟨a,e,⟨xs,hq⟩,q⟩:=i;subst e;cases j;obtain⟨k,m,p,n⟩:=d.list hq;refine z93 p.isList ⟨s1.heap.objs.size,[s1.heap.objs.size],_,_,H1,rfl,d.kept λb o e=>zZ4 _ e,fY a _,⟨_,z08 _ rfl,rfl,rfl⟩,λb hb=>?_,q⟩;have e:b=s1.heap.objs.size:=by simpa using hb
 subst e;exact d.fpOk (zZ8 _) (d.hok.fresh (zZ8 _))
def zC5 {l:Ak}{f:TE}(g:PE X l f):PI X tg l (zY0 X.K f):=by
 intro pins s B H R I h;refine thn (g pins s B H _ I h) λv s1 c=>?_;obtain⟨x,H1,d,j,i⟩:=c;obtain⟨a,e,⟨xs,hq⟩,q⟩:=i;subst e;cases j;obtain⟨k,m,p,n⟩:=d.tuple hq;refine wpAny_pyIter_tuple (p) ⟨s1.heap.objs.size,[s1.heap.objs.size],_,_,H1,rfl,d.kept λb o e=>zZ4 _ e,lH a _,⟨_,z08 _ rfl,rfl,rfl⟩,λb hb=>?_,q⟩;have e:b=s1.heap.objs.size:=by simpa using hb
 subst e;exact d.fpOk (zZ8 _) (d.hok.fresh (zZ8 _))
def nH {pins:List (Ae×Obj)}{B:St}{H:Hp}{s:Ad}{R:It->Hp->Prop}{E:Ab->Ad->Prop}{lo hi:Int}{t u v:Tok}{c:Nat}(I:Inv X pins B H s)(h1:-(2 ^ 62)<=lo)(h2:lo<2 ^ 62)(h3:-(2 ^ 62)<=hi)(f:hi<2 ^ 62)
  (q:R (Itr lo (hi-lo).toNat) H):Aj (Al X.prog X.w) X.A (pyIter (.ref s.heap.objs.size)) (PIE X pins B tg R) E {s with heap:=s.heap.push {cls:=.type "range",data:=.fields #[.int lo t,.int hi u,.int 1 v]},toks:=c}:=by
 refine wpAny_pyIter_range (IsRange.new ..) (small_one h1 h2 h3 f) ?_;have a:Inv X pins B H {s with heap:=s.heap.push {cls:=.type "range",data:=.fields #[.int lo t,.int hi u,.int 1 v]},toks:=c}:=I.kept λb o e=>zZ4 _ e;refine⟨(s.heap.push {cls:=.type "range",data:=.fields #[.int lo t,.int hi u,.int 1 v]}).objs.size,[(s.heap.push {cls:=.type "range",data:=.fields #[.int lo t,.int hi u,.int 1 v]}).objs.size],_,_,H,rfl,
  a.kept λb o e=>zZ4 _ e,lB _ lo (hi-lo).toNat,?_,λb hb=>?_,q⟩
 .have e1:lo+((0:Nat):Int)*1=lo:=by simp
  have d:(((hi-lo).toNat:Nat):Int)-((0:Nat):Int)=Builtin.Range.rangeSize lo hi 1:=by rw[rangeSize_one];split<;>lia
  rw[e1,d];exact z08 _ rfl
 .have e:b=(s.heap.push {cls:=.type "range",data:=.fields #[.int lo t,.int hi u,.int 1 v]}).objs.size:=by simpa using hb
  subst e;exact a.fpOk (zZ8 _) (a.hok.fresh (zZ8 _))
def zR6 (a:TA):TI:=λB H R=>a B H λvs H1=>∃j:Int,vs=[.int j]/\-(2 ^ 62)<=j/\j<2 ^ 62/\R (Itr 0 j.toNat) H1
def zQ1 (a:TA):TI:=λB H R=>a B H λvs H1=>∃i j:Int,vs=[.int i,.int j]/\(-(2 ^ 62)<=i/\i<2 ^ 62/\-(2 ^ 62)<=j/\j<2 ^ 62)/\R (Itr i (j-i).toNat) H1
theorem eW {a:Ak}{d:TA}{p pos:Pos}(hg:Gl X "range")(hm:X.mg "range"=none)(ha:PA X [a] d)(f:Af [a] X.env=[(false,eval a X.env)]:=by rfl):PI X tg (.Call (.Name "range" p) [a] [] pos) (zR6 d):=by
 intro pins s B H R I h;refine Call_ (yR I hg hm boot_range (z45 (thn (ha pos pins s B H _ I h) λus s1 b=>?_) f rfl));obtain⟨vs,H1,i,l,c⟩:=b;obtain⟨j,e,c,k,q⟩:=c;subst e;cases l with
 |cons r g=>
  cases g;obtain⟨t,rfl⟩:=r;exact call_range_1 (nH i (by decide) (by decide) c k (by simpa using q))
theorem gu {a b:Ak}{g:TA}{p pos:Pos}(hg:Gl X "range")(hm:X.mg "range"=none)(ha:PA X [a,b] g)(m:Af [a,b] X.env=[(false,eval a X.env),(false,eval b X.env)]:=by rfl)(c:Af [b] X.env=[(false,eval b X.env)]:=by rfl):
  PI X tg (.Call (.Name "range" p) [a,b] [] pos) (zQ1 g):=by
 intro pins s B H R I h;refine Call_ (yR I hg hm boot_range (z45 (thn (ha pos pins s B H _ I h) λus s1 ⟨vs,H1,v,l,d⟩=>?_) (by rw[m,c]) (by rw[c];rfl)));obtain⟨i,j,e,⟨d,k,o,u⟩,q⟩:=d;subst e;cases l with
 |cons r f=>
  cases f with
  |cons n f=>
   cases f;obtain⟨t,rfl⟩:=r;obtain⟨t',rfl⟩:=n;exact call_range_2 (nH v d k o u q)
def zW0 (d:TI)(g:TG)(c:TS):TS:=λD B H=>d B H λJ H1=>∃W:Nat->Nat->St->Hp->Prop,(∃m,W 0 m B H1)/\∀i m B H,W i m B H->
 (J.stop i H/\D.nx B H)\/(J.go i H/\∃N:St->Hp->Prop,(∀a H',N a H'->∃b,b<m/\W (i+1) b a H')/\∀x H',J.yld i H x H'->g x B H' λσ2 e=>c {D with nx:=N,ct:=N,bk:=D.nx} σ2 e)
noncomputable def qc (fp:List Ae)(h:Ao):List (Ae×Obj):=fp.filterMap λb=>(h.get? b).map λo=>(b,o)
def wA {fp:List Ae}{h:Ao}{b:Ae}{o:Obj}(hb:b∈fp)(e:h.get? b=some o):(b,o)∈qc fp h:=yj7.mpr ⟨b,hb,by rw[e];rfl⟩
theorem eh {fp:List Ae}{h:Ao}{p:Ae×Obj}(c:p∈qc fp h):p.1∈fp/\h.get? p.1=some p.2:=by
 obtain⟨b,hb,e⟩:=yj7.mp c;cases q:h.get? b with
 |none=>rw[q]at e;cases e
 |some o=>
  rw[q]at e;have a:=z34 e;subst a;exact⟨hb,q⟩
def Inv.pinned {pins:List (Ae×Obj)}{B:St}{H:Hp}{s:Ad}{fp:List Ae}(I:Inv X pins B H s)(hf:∀b∈fp,xg X pins H b)(f:∀b∈fp,∃o,s.heap.get? b=some o/\∀v,o.data≠.cell v):Inv X (pins++qc fp s.heap) B H s:=
 I.pins_of λp c=>(z44.mp c).elim (λz=>I.pin p (z43 _ z)) λz=>by
  obtain⟨hb,e⟩:=eh z;obtain⟨f0,f1,f2,_⟩:=hf p.1 hb;obtain⟨o,a,d⟩:=f p.1 hb;rw[e]at a;cases a;exact⟨e,f0,f1,f2,d⟩
def Inv.unpinned {pins pl:List (Ae×Obj)}{B:St}{H:Hp}{s:Ad}(I:Inv X (pins++pl) B H s):Inv X pins B H s:=I.pins_of λp a=>I.pin p (z43 _ (yb9 _ a))
def zH5 {iter:Ak}{body:List An}{Z:TI}{g:TG}{U:TS}{pos:Pos}(F:PassesOwn (Al X.prog X.w) X.A X.env X.xe)(Y:X.calm=true)(hi:PI X tg iter Z)(hg:PG X tg g)(hb:PSs X body U)
  (hs:∀x,foldedSetIterable iter X.env x=pure x:=by intro _;rfl):PS X (.For tg iter body [] pos) (zW0 Z g U):=by
 intro pins s B H D I h;refine wpAny_For (thn (hi pins s B H _ I h) λv s1 h1=>thn h1 λa0 s2 h2=>?_) hs;obtain⟨it,fp,tn,J,H2,e,I2,T,Q,f2,W,⟨m0,w0⟩,turn⟩:=h2;subst e
 -- what stays true of the iterator's objects through the loop
 have p:∀{H':Hp},(∀b∈fp,H' b=none)->∀b∈fp,xg X pins H' b:=λhn b hb=>⟨hn b hb,(f2 b hb).2⟩;refine codeAny_forLoop_any (λn s'=>∃i l H',Inv X pins l H' s'/\tn i s'.heap/\(∀b∈fp,H' b=none)/\W i n l H') ?_ m0 ⟨0,B,H2,I2,Q,λb hb=>(f2 b hb).1,w0⟩;rintro n s3 ⟨i,k,M,S,L,C,w3⟩;rcases turn i n k M w3 with⟨stop,qn⟩|⟨go,N,hN,step⟩
 .refine yb3 F (thn (T.done X rfl rfl rfl Y i pins s3 k M X.xe S (p C) L stop) λr s4 E=>?_);obtain⟨hr,I4⟩:=E;subst hr;exact yi2 ⟨k,M,I4,qn⟩
 .refine yb3 F (thn (T.item X rfl rfl rfl Y i pins s3 k M X.xe S (p C) L go) λr s4 y=>?_);obtain⟨u,hr,h4⟩:=y;subst hr;refine yb3 F (thn h4 λ_ s5 G=>?_);obtain⟨x,V,I5,r5,y5,t,R⟩:=G;refine yb3 F (thn (hg _ s5 k V x u _ (I5.pinned (p R) (T.obj _ _ t)) r5 (step x V y5)) λ_ s6 K=>?_);obtain⟨O,H6,I6,q6⟩:=K;refine yb3 F (thn (hb _ s6 O H6 _ I6 q6) λf P q=>?_);have again:∀{a:St} {c:Hp},Inv X (pins++qc fp s5.heap) a c P->N a c->∃m,m<n/\∃i l H',Inv X pins l H' P/\tn i P.heap/\(∀b∈fp,H' b=none)/\W i m l H':=λ{a c} j z=>by
   obtain⟨m',hm,w7⟩:=hN a c z;refine⟨m',hm,i+1,a,c,j.unpinned,T.keep _ _ _ t λb hb o e=>(j.pin (b,o) (z43 _ (z43 _ (wA hb e)))).1,λb hb=>?_,w7⟩;obtain⟨o,e,d⟩:=T.obj _ _ t b hb;exact(j.pin (b,o) (z43 _ (z43 _ (wA hb e)))).2.1
  cases f with
  |next=>obtain⟨a,c,j,z⟩:=q;exact again j z
  |cont=>obtain⟨a,c,j,z⟩:=q;exact again j z
  |brk=>obtain⟨a,c,j,q⟩:=q;exact⟨a,c,j.unpinned,q⟩
  |ret v=>obtain⟨x7,a,c,j,r7,q⟩:=q;exact⟨x7,a,c,j.unpinned,r7,q⟩
end
abbrev R2 :=V->V->Hp->VK->Prop
def OpR (X:Cx)(f:Ab->Ab->Sem Ab)(r:R2):Prop:=
 ∀(pins:List (Ae×Obj)) (s:Ad) (B:St) (H:Hp) (x y:V) (v u:Ab) (Q:VK),Inv X pins B H s->RelV x v->RelV y u->r x y H Q->
  Aj (Al X.prog X.w) X.A (f v u) (EP X pins B Q) X.xe s
def UnR (X:Cx)(f:Ab->Sem Ab)(r:V->Hp->VK->Prop):Prop:=
 ∀(pins:List (Ae×Obj)) (s:Ad) (B:St) (H:Hp) (x:V) (v:Ab) (Q:VK),Inv X pins B H s->RelV x v->r x H Q->
  Aj (Al X.prog X.w) X.A (f v) (EP X pins B Q) X.xe s
def yt (X:Cx)(f:Ab)(r:List V->Hp->VK->Prop):Prop:=
 ∀(pins:List (Ae×Obj)) (s:Ad) (B:St) (H:Hp) (xs:List V) (us:List Ab) (Q:VK),Inv X pins B H s->Vals xs us->r xs H Q->
  Aj (Al X.prog X.w) X.A (call f us) (EP X pins B Q) X.xe s
def zX7 (X:Cx)(r:V->Hp->(Bool->Hp->Prop)->Prop):Prop:=
 ∀(pins:List (Ae×Obj)) (s:Ad) (B:St) (H:Hp) (x:V) (v:Ab) (Q:Bool->Hp->Prop),Inv X pins B H s->RelV x v->r x H Q->
  Aj (Al X.prog X.w) X.A (truthy v) (TP X pins B Q) X.xe s
def tOp (r:R2)(a b:TE):TE:=λB H Q=>a B H λx H1=>b B H1 λy c=>r x y c Q
def tUn (r:V->Hp->VK->Prop)(a:TE):TE:=λB H Q=>a B H λx H1=>r x H1 Q
def rI (C:Int->Int->Prop)(g:Int->Int->V):R2:=λx y H Q=>∃i j,x=.int i/\y=.int j/\C i j/\Q (g i j) H
def rI0 (g:Int->Int->V):R2:=λx y H Q=>∃i j,x=.int i/\y=.int j/\Q (g i j) H
def rU (g:Int->V):V->Hp->VK->Prop:=λx H Q=>∃i,x=.int i/\Q (g i) H
section
variable {X:Cx}{a b c:Ak}{ta tb tc:TE}{pos:Pos}
def zE0 (ha:PE X a ta)(hb:PE X b tb){pins:List (Ae×Obj)}{s:Ad}{B:St}{H:Hp}{R:V->V->Hp->Prop}(I:Inv X pins B H s)
  (h:ta B H λx H1=>tb B H1 λy d=>R x y d) {Q:Ab->Ad->Prop} {f:Ab->Ab->Sem Ab}
  (hf:∀v u s2 x y d,Inv X pins B d s2->RelV x v->RelV y u->R x y d->Aj (Al X.prog X.w) X.A (f v u) Q X.xe s2):
  Aj (Al X.prog X.w) X.A (eval a X.env) (λv e=>Aj (Al X.prog X.w) X.A (eval b X.env) (λu j=>Aj (Al X.prog X.w) X.A (f v u) Q X.xe j) X.xe e) X.xe s:=by
 refine thn (ha pins s B H _ I h) λv s1 g=>?_;obtain⟨x,H1,l,p,k⟩:=g;refine thn (hb pins s1 B H1 _ l k) λu s2 i=>?_;obtain⟨y,d,n,m,o⟩:=i;exact hf v u s2 x y d n p m o
def ym {op:Operator}{r:R2}(e:OpR X (binaryOp op) r)(ha:PE X a ta)(hb:PE X b tb):PE X (.BinOp a op b pos) (tOp r ta tb):=by
 intro pins s B H Q I h;exact wpAny_BinOp (zE0 ha hb I h λv u s2 x y i d g f q=>e pins s2 B i x y v u Q d g f q)
def ai {op:UnaryOp}{r:V->Hp->VK->Prop}(g:UnR X (unaryOp op) r)(ha:PE X a ta):PE X (.UnaryOp op a pos) (tUn r ta):=by
 intro pins s B H Q I h;exact UnaryOp_ (thn (ha pins s B H _ I h) λv s1 d=>by obtain⟨x,H1,f,i,e⟩:=d;exact g pins s1 B H1 x v Q f i e)
def opI {f:Ab->Ab->Sem Ab}{C:Int->Int->Prop}{g:Int->Int->Int}
  (rule:∀(i j:Int) (t u:Tok) (s:Ad) (Q:Ab->Ad->Prop) (E:Ab->Ad->Prop),C i j->Q (.int (g i j) s.toks) {s with toks:=s.toks+1}->Aj (Al X.prog X.w) X.A (f (.int i t) (.int j u)) Q E s):
  OpR X f (rI C λi j=>.int (g i j)):=by
 intro pins s B H x y v u Q I k e h;obtain⟨i,j,rfl,rfl,d,q⟩:=h;obtain⟨t,rfl⟩:=k;obtain⟨t',rfl⟩:=e;exact rule i j t t' s _ _ d ⟨.int (g i j),H,I.tok _,⟨_,rfl⟩,q⟩
def zP8 {f:Ab->Ab->Sem Ab}{g:Int->Int->Int}
  (rule:∀(i j:Int) (t u:Tok) (s:Ad) (Q:Ab->Ad->Prop) (E:Ab->Ad->Prop),Q (.int (g i j) s.toks) {s with toks:=s.toks+1}->Aj (Al X.prog X.w) X.A (f (.int i t) (.int j u)) Q E s):
  OpR X f (rI0 λi j=>.int (g i j)):=by
 intro pins s B H x y v u Q I e d h;obtain⟨i,j,rfl,rfl,q⟩:=h;obtain⟨t,rfl⟩:=e;obtain⟨t',rfl⟩:=d;exact rule i j t t' s _ _ ⟨.int (g i j),H,I.tok _,⟨_,rfl⟩,q⟩
def zi1 {f:Ab->Ab->Sem Ab}{g:Int->Int->Bool}
  (rule:∀(i j:Int) (t u:Tok) (s:Ad) (Q:Ab->Ad->Prop) (E:Ab->Ad->Prop),Q (.bool (g i j)) s->Aj (Al X.prog X.w) X.A (f (.int i t) (.int j u)) Q E s):
  OpR X f (rI0 λi j=>.bl (g i j)):=by
 intro pins s B H x y v u Q I e d h;obtain⟨i,j,rfl,rfl,q⟩:=h;obtain⟨t,rfl⟩:=e;obtain⟨t',rfl⟩:=d;exact rule i j t t' s _ _ ⟨.bl (g i j),H,I,rfl,q⟩
def zD1 (i j:Int):Prop:=0<=j/\j<=1000000/\i.natAbs<2 ^ 64
def zJ2 (i j:Int):Prop:=(-(2 ^ 64)<i/\i<2 ^ 64)\/(-(2 ^ 64)<j/\j<2 ^ 64)
def zJ2.ok {i j:Int}(h:zJ2 i j):IntMulOk i j:=by
 rcases h with⟨h1,h2⟩|⟨h1,h2⟩
 .exact .of_left (intBits_le_64 h1 h2)
 .exact .of_right (intBits_le_64 h1 h2)
def uP :OpR X (binaryOp .Add) (rI0 λi j=>.int (i+j)):=zP8 λ_ _ _ _ _ _ _ q=>add_int q
def zI1 :OpR X (binaryOp .Sub) (rI0 λi j=>.int (i-j)):=zP8 λ_ _ _ _ _ _ _ q=>sub_int q
def rS :OpR X (binaryOp .Mult) (rI zJ2 λi j=>.int (i*j)):=opI λ_ _ _ _ _ _ _ d q=>mul_int q d.ok
def vF :OpR X (binaryOp .Mod) (rI (λ_ j=>0<j) λi j=>.int (i % j)):=opI λi j _ _ _ _ _ d q=>by exact mod_int' (yi3 d) (by rw[Int.fmod_eq_emod_of_nonneg i (yd1 d)];exact q)
def aC :OpR X (binaryOp .Pow) (rI zD1 λi j=>.int (i ^ j.toNat)):=opI λ_ _ _ _ _ _ _ d q=>pow_int_small d.1 d.2.1 d.2.2 q
def unI {f:Ab->Sem Ab}{g:Int->Int}
  (rule:∀(i:Int) (t:Tok) (s:Ad) (Q:Ab->Ad->Prop) (E:Ab->Ad->Prop),Q (.int (g i) s.toks) {s with toks:=s.toks+1}->Aj (Al X.prog X.w) X.A (f (.int i t)) Q E s):
  UnR X f (rU λi=>.int (g i)):=by
 intro pins s B H x v Q I d h;obtain⟨i,rfl,q⟩:=h;obtain⟨t,rfl⟩:=d;exact rule i t s _ _ ⟨.int (g i),H,I.tok _,⟨_,rfl⟩,q⟩
def lZ :UnR X (unaryOp .USub) (rU λi=>.int (-i)):=unI λ_ _ _ _ _ q=>neg_int q
end
noncomputable def zK4 :V->V->Bool
 |.non,.non=>true|.non,.int _=>true|.int _,.non=>true|.non,.bl _=>true|.bl _,.non=>true|.non,.str _=>true|.str _,.non=>true
 |.int _,.int _=>true|.bl _,.bl _=>true|.str _,.str _=>true|.byt _,.byt _=>true
 |.int _,.str _=>true|.str _,.int _=>true|.bl _,.str _=>true|.str _,.bl _=>true
 |_,_=>false
def rEq :R2:=λx y H Q=>zK4 x y=true/\Q (.bl (decide (x=y))) H
def rNe :R2:=λx y H Q=>zK4 x y=true/\Q (.bl (!decide (x=y))) H
def iu {i j:Int}:decide (V.int i=V.int j)=(i == j):=by
 rw[z61];simp
def bN {i j:Bool}:decide (V.bl i=V.bl j)=(i == j):=by
 rw[z61];simp
def jC {i j:Str}:decide (V.str i=V.str j)=(i == j):=by
 rw[z61];simp
def iT {i j:Array UInt8}:decide (V.byt i=V.byt j)=(i.toList == j.toList):=by
 rw[z61];cases i;cases j;simp
section
variable {X:Cx}{a b c:Ak}{ta tb tc:TE}{pos:Pos}
def zC {pins:List (Ae×Obj)}{B:St}{H:Hp}{s:Ad}{Q:VK}{k d:Bool}(I:Inv X pins B H s)(q:Q (.bl k) H)(e:k=d):EP X pins B Q (.bool d) s:=by
 subst e;exact⟨.bl k,H,I,rfl,q⟩
theorem jo :OpR X (compareOp .Eq) rEq:=by
 intro pins s B H x y v u Q I f d h;obtain⟨e,q⟩:=h;cases x with
 |non=>
  cases f;cases y with
  |non=>cases d;exact PySem.EqNone.eq_none_none (zC I q (by simp))
  |bl j=>cases d;exact PySem.EqNone.eq_none_bool (zC I q (by simp))
  |int j=>obtain⟨t',rfl⟩:=d;exact PySem.EqNone.eq_none_int (zC I q (by simp))
  |str j=>obtain⟨t',rfl⟩:=d;exact PySem.EqNone.eq_none_str (zC I q (by simp))
  |_=>exact absurd (e) z32
 |bl i=>
  cases f;cases y with
  |non=>cases d;exact PySem.EqNone.eq_bool_none (zC I q (by simp))
  |bl j=>cases d;exact eq_bool (zC I q bN)
  |str j=>obtain⟨t',rfl⟩:=d;exact PySem.EqMixed.eq_bool_str (zC I q (by simp))
  |_=>exact absurd (e) z32
 |int i=>
  obtain⟨t,rfl⟩:=f;cases y with
  |non=>cases d;exact PySem.EqNone.eq_int_none (zC I q (by simp))
  |int j=>obtain⟨t',rfl⟩:=d;exact eq_int (zC I q iu)
  |str j=>obtain⟨t',rfl⟩:=d;exact PySem.EqMixed.eq_int_str (zC I q (by simp))
  |_=>exact absurd (e) z32
 |str i=>
  obtain⟨t,rfl⟩:=f;cases y with
  |non=>cases d;exact PySem.EqNone.eq_str_none (zC I q (by simp))
  |bl j=>cases d;exact PySem.EqMixed.eq_str_bool (zC I q (by simp))
  |int j=>obtain⟨t',rfl⟩:=d;exact PySem.EqMixed.eq_str_int (zC I q (by simp))
  |str j=>obtain⟨t',rfl⟩:=d;exact eq_str (zC I q jC)
  |_=>exact absurd (e) z32
 |byt i=>
  obtain⟨t,rfl⟩:=f;cases y with
  |byt j=>obtain⟨t',rfl⟩:=d;exact PySem.W.eq_bytes (zC I q iT)
  |_=>exact absurd (e) z32
 |_=>cases y<;>exact absurd (e) z32
theorem zO0 :OpR X (compareOp .NotEq) rNe:=by
 intro pins s B H x y v u Q I f d h;obtain⟨e,q⟩:=h;cases x with
 |non=>
  cases f;cases y with
  |non=>cases d;exact PySem.EqNone.ne_none_none (zC I q (by simp))
  |bl j=>cases d;exact PySem.EqNone.ne_none_bool (zC I q (by simp))
  |int j=>obtain⟨t',rfl⟩:=d;exact PySem.EqNone.ne_none_int (zC I q (by simp))
  |str j=>obtain⟨t',rfl⟩:=d;exact PySem.EqNone.ne_none_str (zC I q (by simp))
  |_=>exact absurd (e) z32
 |bl i=>
  cases f;cases y with
  |non=>cases d;exact PySem.EqNone.ne_bool_none (zC I q (by simp))
  |bl j=>cases d;exact ne_bool (zC I q (congrArg not bN))
  |str j=>obtain⟨t',rfl⟩:=d;exact PySem.EqMixed.ne_bool_str (zC I q (by simp))
  |_=>exact absurd (e) z32
 |int i=>
  obtain⟨t,rfl⟩:=f;cases y with
  |non=>cases d;exact PySem.EqNone.ne_int_none (zC I q (by simp))
  |int j=>obtain⟨t',rfl⟩:=d;exact ne_int (zC I q (congrArg not iu))
  |str j=>obtain⟨t',rfl⟩:=d;exact PySem.EqMixed.ne_int_str (zC I q (by simp))
  |_=>exact absurd (e) z32
 |str i=>
  obtain⟨t,rfl⟩:=f;cases y with
  |non=>cases d;exact PySem.EqNone.ne_str_none (zC I q (by simp))
  |bl j=>cases d;exact PySem.EqMixed.ne_str_bool (zC I q (by simp))
  |int j=>obtain⟨t',rfl⟩:=d;exact PySem.EqMixed.ne_str_int (zC I q (by simp))
  |str j=>obtain⟨t',rfl⟩:=d;exact ne_str (zC I q (congrArg not jC))
  |_=>exact absurd (e) z32
 |byt i=>
  obtain⟨t,rfl⟩:=f;cases y with
  |byt j=>obtain⟨t',rfl⟩:=d;exact PySem.W.ne_bytes (zC I q (congrArg not iT))
  |_=>exact absurd (e) z32
 |_=>cases y<;>exact absurd (e) z32
def qT :OpR X (compareOp .Lt) (rI0 λi j=>.bl (decide (i<j))):=zi1 λ_ _ _ _ _ _ _ q=>lt_int q
def vE :OpR X (compareOp .LtE) (rI0 λi j=>.bl (decide (i<=j))):=zi1 λ_ _ _ _ _ _ _ q=>le_int q
def nY :OpR X (compareOp .Gt) (rI0 λi j=>.bl (decide (j<i))):=zi1 λ_ _ _ _ _ _ _ q=>gt_int q
def ze0 :OpR X (compareOp .GtE) (rI0 λi j=>.bl (decide (j<=i))):=zi1 λ_ _ _ _ _ _ _ q=>ge_int q
def bH :OpR X (compareOp .Is) (λx y H Q=>y=.non/\Q (.bl (decide (x=.non))) H):=by
 intro pins s B H x y v u Q I d e h;obtain⟨rfl,q⟩:=h;cases e;refine is_none_gen (zC I q ?_);cases x<;>first
  |(cases d;rfl)
  |(obtain⟨t,rfl⟩:=d;rfl)
def zj5 :OpR X (compareOp .IsNot) (λx y H Q=>y=.non/\Q (.bl (!decide (x=.non))) H):=by
 intro pins s B H x y v u Q I d e h;obtain⟨rfl,q⟩:=h;cases e;refine isnot_none_gen (zC I q ?_);cases x<;>first
  |(cases d;rfl)
  |(obtain⟨t,rfl⟩:=d;rfl)
def yd (b:Ak){op:CmpOp}(h:op≠.In:=by decide)(h2:op≠.NotIn:=by decide):behindInMarks op b=false:=by
 have e1:(op == CmpOp.In)=false:=by cases op<;>first|rfl|exact absurd rfl h
 have d:(op == CmpOp.NotIn)=false:=by cases op<;>first|rfl|exact absurd rfl h2
 cases b<;>simp[behindInMarks,e1,d]
def oZ {op:CmpOp}{r:R2}(e:OpR X (compareOp op) r)(ha:PE X a ta)(hb:PE X b tb)(hm:behindInMarks op b=false):PE X (.Compare a [op] [b] pos) (tOp r ta tb):=by
 intro pins s B H Q I h;exact wpAny_Compare1 (zE0 ha hb I h λv u s2 x y i d g f q=>e pins s2 B i x y v u Q d g f q) hm
def bU (t:TE):TT:=λB H Q=>t B H λx H'=>∃k,x=.bl k/\Q k H'
def vq {op:CmpOp}{r:R2}(p:OpR X (compareOp op) r)(ha:PE X a ta)(hb:PE X b tb)(hm:behindInMarks op b=false):PT X (.Compare a [op] [b] pos) (bU (tOp r ta tb)):=by
 intro pins s B H Q I h;refine wpAny_isTrue_Compare1 (thn (ha pins s B H _ I h) λv s1 ⟨x,H1,l,q,f⟩=>thn (hb pins s1 B H1 _ l f) λu s2 ⟨y,t,m,j,n⟩=>
  thn (p pins s2 B t x y v u _ m q j n) λc s3 ⟨z,d,g,o,k,e,i⟩=>?_) hm
 subst e;cases o;exact z50 ⟨d,g,i⟩
def za3 (r e:R2)(ta tb tc:TE):TE:=λB H Q=>ta B H λx H1=>tb B H1 λy h=>r x y h λz d=>∃k,z=.bl k/\
 (if k=true then tc B d λf g=>e y f g Q else Q (.bl false) d)
theorem bO {op f:CmpOp}{r l:R2}(G:OpR X (compareOp op) r)(g:OpR X (compareOp f) l)(ha:PE X a ta)(hb:PE X b tb)(q:PE X c tc)
  (hm:lastMarks [op,f] [b,c]=false:=by with_unfolding_all rfl):PE X (.Compare a [op,f] [b,c] pos) (za3 r l ta tb tc):=by
 intro pins s B H Q I h;refine Compare_chain (thn (ha pins s B H _ I h) λv s1 ⟨x,H1,L,C,p⟩=>chain_link (thn (hb pins s1 B H1 _ L p) λu s2 ⟨y,M,D,n,t⟩=>
  thn (G pins s2 B M x y v u _ D C n t) λd s3 ⟨z,j,i,E,k,e,m⟩=>?_)) hm
 subst e;cases E;refine z50 ?_;cases k with
 |false=>exact ite_ff ⟨.bl false,j,i,rfl,m⟩
 |true=>exact ite_tt (chain_last (thn (q pins s3 B j _ i m) λJ s4 ⟨o,A,K,w,F⟩=>g pins s4 B A y o u J Q K n w F))
theorem aa {op f:CmpOp}{r l:R2}(P:OpR X (compareOp op) r)(g:OpR X (compareOp f) l)(ha:PE X a ta)(hb:PE X b tb)(t:PE X c tc)
  (hm:lastMarks [op,f] [b,c]=false:=by with_unfolding_all rfl):PT X (.Compare a [op,f] [b,c] pos) (bU (za3 r l ta tb tc)):=by
 intro pins s B H Q I h;refine isTrue_chain (thn (ha pins s B H _ I h) λv s1 ⟨x,H1,T,E,p⟩=>test_link (thn (hb pins s1 B H1 _ T p) λu s2 ⟨y,U,K,n,w⟩=>
  thn (P pins s2 B U x y v u _ K E n w) λd s3 ⟨z,j,i,L,k,e,m⟩=>?_)) hm
 subst e;cases L;refine z50 ?_;cases k with
 |false=>
  obtain⟨Y,O,J⟩:=m;cases O;exact ite_ff ⟨j,i,J⟩
 |true=>
  refine ite_tt (test_last (thn (t pins s3 B j _ i m) λR s4 ⟨o,D,S,A,N⟩=>thn (g pins s4 B D y o u R _ S n A N) λd' s5 ⟨W,M,q,F,V,C,G⟩=>?_));subst C;cases F;exact z50 ⟨M,q,G⟩
def zT5 (K:Ac)(x:V)(H:Hp)(k:Bool):Prop:=
 match x with
 |.non=>k=false
 |.bl b=>k=b
 |.int i=>k=(i != 0)
 |.str y=>y.length<=sizeLine/\k=((y.length:Int) != 0)
 |.byt y=>y.size<=sizeLine/\k=((y.size:Int) != 0)
 |.ref p=>(∃xs,SqL K H p xs/\k=!xs.isEmpty)\/(∃xs,SqT K H p xs/\k=!xs.isEmpty)\/∃kvs,H p=some (.dK kvs)/\k=!kvs.isEmpty
 |_=>False
def jb {d:Type}{kvs:List (d×V)}{vs:List (d×Ab)}(r:KV kvs vs):(!vs.isEmpty)=!kvs.isEmpty:=by
 cases r<;>rfl
def rj {xs:List V}{d:List Ab}(r:Vals xs d):(!d.toArray.isEmpty)=!xs.isEmpty:=by
 cases r<;>simp
def sR :(sizeLine:Nat)<2 ^ 63:=by rw[z71];decide
theorem zB6 :zX7 X (λx H Q=>∃k,zT5 X.K x H k/\Q k H):=by
 intro pins s B H x v Q I f h;obtain⟨k,e,q⟩:=h;have g:=z71;cases x with
 |non=>
  cases f;have d:=e;subst d;exact truthy_none ⟨H,I,q⟩
 |bl b=>
  cases f;have d:=e;subst d;exact z50 ⟨H,I,q⟩
 |int i=>
  obtain⟨t,rfl⟩:=f;have d:=e;subst d;exact PySem.P.truthy_int ⟨H,I,q⟩
 |str y=>
  obtain⟨t,rfl⟩:=f;obtain⟨hy,d⟩:=e;subst d;exact PySem.P.truthy_str (zL7 g hy) ⟨H,I.tok _,q⟩
 |byt y=>
  obtain⟨t,rfl⟩:=f;obtain⟨hy,d⟩:=e;subst d;exact PySem.W.truthy_bytes (zL8 g hy) ⟨H,I.tok _,q⟩
 |ref p=>
  cases f;have d:=e;rcases d with⟨xs,j,d⟩|⟨xs,j,d⟩|⟨kvs,j,d⟩
  .subst d;obtain⟨n,r,pl,l⟩:=I.list j;exact wpAny_truthy_list pl.isList (by simp only[z09];exact de g r.length l) ⟨H,I.tok _,by rw[rj r];exact q⟩
  .subst d;obtain⟨n,r,pl,l⟩:=I.tuple j;exact truthy_tuple pl (by simp only[z09];exact de g r.length l) ⟨H,I.tok _,by rw[rj r];exact q⟩
  .subst d;obtain⟨l,o,vs,r,m⟩:=I.hok p _ j;exact wpAny_truthy_dict o m (de g (Paired.length r) l) ⟨H,I.tok _,by rw[jb r];exact q⟩
 |_=>exact(e).elim
def za1 (ha:PE X a ta)(he:∀whole,isTrue a X.env whole=(do let v <-whole;standAt a.pos;holding [v] (truthy v))):
  PT X a (λB H Q=>ta B H λx H'=>∃k,zT5 X.K x H' k/\Q k H'):=by
 intro pins s B H Q I h;exact isTrue_plain (thn (ha pins s B H _ I h) λv s1 d=>by obtain⟨x,H1,f,g,e⟩:=d;exact zB6 pins s1 B H1 x v Q f g e) (he _)
def kj :OpR X (binaryOp .Add) (λx y H Q=>∃i j,x=.str i/\y=.str j/\i.length+j.length<=sizeLine/\Q (.str (i++j)) H):=by
 intro pins s B H x y v u Q I f e h;obtain⟨i,j,rfl,rfl,d,q⟩:=h;obtain⟨t,rfl⟩:=f;obtain⟨t',rfl⟩:=e;exact add_str (λt' g=>⟨.str (i++j),H,I.tok _,⟨_,rfl⟩,q⟩) d
theorem vals1 {x:V}{us:List Ab}(r:Vals [x] us):∃u,us=[u]/\RelV x u:=by
 cases r with
 |cons e d=>cases d;exact⟨_,rfl,e⟩
def nk :yt X (.builtin "abs") (λxs H Q=>∃i,xs=[.int i]/\Q (.int (if i<0 then -i else i)) H):=by
 intro pins s B H xs us Q I r h;obtain⟨i,rfl,q⟩:=h;obtain⟨u,rfl,t,rfl⟩:=vals1 r;exact call_abs_int λu d=>⟨.int (if i<0 then -i else i),H,I.tok _,⟨_,rfl⟩,q⟩
def gJ :yt X (.type "int") (λxs H Q=>(∃i,xs=[.int i]/\Q (.int i) H)\/∃k,xs=[.bl k]/\Q (.int (if k then 1 else 0)) H):=by
 intro pins s B H xs us Q I r h;rcases h with⟨i,rfl,q⟩|⟨k,rfl,q⟩
 .obtain⟨u,rfl,t,rfl⟩:=vals1 r;exact call_int_int ⟨.int i,H,I,⟨_,rfl⟩,q⟩
 .obtain⟨u,rfl,d⟩:=vals1 r;cases d;exact call_int_bool ⟨.int (if k then 1 else 0),H,I.tok _,⟨_,rfl⟩,q⟩
def oy :yt X (.type "str") (λxs H Q=>∃i,xs=[.int i]/\i.natAbs.log2<1920/\Q (.str (toString i)) H):=by
 intro pins s B H xs us Q I r h;obtain⟨i,rfl,d,q⟩:=h;obtain⟨u,rfl,t,rfl⟩:=vals1 r;exact PySem.P.str_of_int d ⟨.str _,H,I.tok _,⟨_,rfl⟩,q⟩
end
structure jf (h:Ao)(x dx C:Ae)(mA:Str->Option Ab):Prop where
 obj:h.get? x=some (PySem.W.instObj C dx)
 ns:h.Ns1 dx mA
 ne:dx≠x
def eo {h:Ao}{dx:Ae}{mA:Str->Option Ab}(n:h.Ns1 dx mA):∃od,h.get? dx=some od/\∀name,PySem.W.lookIn name od=some (mA name):=by
 obtain⟨o,c,g,d,hd,hk,_,hm⟩:=n;refine⟨o,d,λname=>?_⟩;have e:=hm name;unfold nsFind findBy at e;rw[<-Array.find?_toList]at e;unfold PySem.W.lookIn;rw[hd];dsimp only;split
 .rename_i y q;rw[q]at e;exact congrArg some e
 .rename_i q;rw[q]at e;have a:c.toList.any (·.refKey)=false:=by
   rw[yg3];intro y hy;obtain⟨z,t,b⟩:=hk y (Array.mem_toList_iff.mp hy);simp[DictEntry.refKey,b]
  have f:¬c.toList.any (·.refKey)=true:=by rw[a];exact z32
  rw[if_neg f];exact congrArg some e
def jf.look {h:Ao}{x dx C:Ae}{mA:Str->Option Ab}(I:jf h x dx C mA):∃od,PySem.W.InstAt h x (PySem.W.instObj C dx) C (some od)/\∀name,PySem.W.lookIn name od=some (mA name):=
 let⟨od,ho,hl⟩:=eo I.ns
 ⟨od,⟨I.obj,rfl,rfl,ho⟩,hl⟩
section
variable {prog:Ag}{w:Ai}{A:Am}{E:Ab->Ad->Prop}{s:Ad}{K:Ac}{x dx C f:Ae}{mA:Str->Option Ab}{name:Str}{v:Ab}
def get_map {expr:Bool}{Q:Ab->Ad->Prop}(X:K.In s.heap)(I:jf s.heap x dx C mA)(hg:PySem.W.plainGet K C name=true)(d:PySem.W.hasDictIn K C=true)
  (ha:PySem.W.findIn K (.ref C) name=some none) (c:mA name=some v) (a:PySem.W.handedIn v=true) (h:Q v {s with toks:=s.toks+1}):
  Aj (Al prog w) A (getAttr (.ref x) name expr) Q E s:=by
 obtain⟨od,J,b⟩:=I.look;exact PySem.W.get_value X J (yj6 hg).1 (PySem.W.findObj_own d ha rfl (by rw[b,c])) a h
def aJ {pl:Sem Bool}{Q:Ab×List Ab->Ad->Prop}(X:K.In s.heap)(I:jf s.heap x dx C mA)(hg:PySem.W.plainGet K C name=true)
  (hf:PySem.W.findIn K (.ref C) name=some (some (.ref f))) (c:PySem.W.isFn K (.ref f)=true) (b:mA name=none) (h:Q (.ref f,[.ref x]) s):
  Aj (Al prog w) A (getMethod (.ref x) name pl) Q E s:=by
 obtain⟨od,J,a⟩:=I.look;exact PySem.W.method_fn X J (yj6 hg).1 (yj6 hg).2 hf (beq_iff_eq.mp c) (by show(PySem.W.lookIn name od).map (·.isSome)=some false;rw[a,b];rfl) h
def zi0 {ns:List Str}{Q:Unit->Ad->Prop}(X:K.In s.heap)(I:jf s.heap x dx C mA)
  (k:PySem.W.findIn K (.ref C) "__setattr__"=some (some (.builtin "object.__setattr__"))) (m:PySem.W.plainOver K C=true) (q:PySem.W.takerIn K C name=some none) (l:PySem.W.hasDictIn K C=true)
  (hw:PySem.Within mA ns) (e:ns.length<=sizeLine)
  (h:∀h',jf h' x dx C (λy=>if y=name then some v else mA y)->Heap.SameBut dx s.heap h'->Q () {s with heap:=h',toks:=s.toks+2}):
  Aj (Al prog w) A (setAttr (.ref x) name v) Q E s:=by
 obtain⟨od,J,r⟩:=I.look;refine PySem.W.set_plain X J k (PySem.W.osa_open X J m q λb=>?_);obtain⟨cd,o,g⟩:=PySem.W.any_some l;refine zZ3 (z02 (zZ3 (zZ3 (wpAny_loadPart I.obj (zZ3 (PySem.W.Looks.here (PySem.W.looks_clsIn X o) ?_))))));rw[g];refine z02 (zZ3 (z02 (zZ3 (wpAny_nsSet1 I.ns λh' a c=>?_))));obtain⟨oD,p,n,i,d,j⟩:=a.count (PySem.Within.cons name v hw);refine zZ3 (wpAny_lookBehind i (by rw[d];exact pastItsLine_dict (z05 j (by rw[z28];exact Nat.add_le_add e (zZ8 _)))) ?_);exact z02 (h _ ⟨(c.2 _ (z42 I.ne)).trans I.obj,a,I.ne⟩ c)
def aE {R:Result->Ad->Prop}{vs:List Ab}{kw:List (Str×Ab)}(X:K.In s.heap)(hm:PySem.W.makesIn K C=true)
  (hi:PySem.W.findIn K (.ref C) "__init__"=some (some (.ref f))) (hf:PySem.W.typeIn K (.ref f)=some (.type "function"))
  (h:codeAny (Al prog w) (A.under (.builtin "type.__call__" ⟨.ref C::vs,kw⟩)) (.call (.ref f) ⟨.ref (s.heap.objs.size+1)::vs,kw⟩) (PySem.W.InitBack (s.heap.objs.size+1) R)
   {s with heap:=(s.heap.push PySem.W.emptyDict).push (PySem.W.instObj C s.heap.objs.size)}):
  codeAny (Al prog w) A (.call (.ref C) ⟨vs,kw⟩) R s:=by
 obtain⟨a,g,d,t,os⟩:=s;exact PySem.W.make_core (PySem.W.makes_of X hm) (PySem.W.looks_findIn X hi) (λself=>PySem.W.bind_fn X self hf) (.inl rfl) h
end
noncomputable def we (f:Str)(v:V):List (Str×V)->List (Str×V)
 |[]=>[(f,v)]
 |(g,x)::r=>if g=f then(g,v)::r else(g,x)::we f v r
theorem tj (f g:Str)(v:V):∀fs:List (Str×V),(we f v fs).lookup g=if g=f then some v else fs.lookup g
 |[]=>by
  show List.lookup g [(f,v)]=_;by_cases h:g=f
  .have hb:(g == f)=true:=beq_iff_eq.mpr h;simp only[List.lookup,hb,if_pos h]
  .have hb:=ya7.mpr h;simp only[List.lookup,hb,if_neg h]
 |(k,x)::r=>by
  rw[show we f v ((k,x)::r)=(if k=f then(k,v)::r else(k,x)::we f v r)from rfl];by_cases hk:k=f
  .rw[if_pos hk];by_cases h:g=k
   .have hb:=beq_iff_eq.mpr h;simp only[List.lookup,hb,if_pos (h.trans hk)]
   .have hb:=ya7.mpr h;simp only[List.lookup,hb,if_neg (λe:g=f=>h (e.trans hk.symm))]
  .rw[if_neg hk];by_cases h:g=k
   .have hb:=beq_iff_eq.mpr h;simp only[List.lookup,hb,if_neg (λe:g=f=>hk (h.symm.trans e))]
   .have hb:=ya7.mpr h;simp only[List.lookup,hb];exact(tj f g v r)
theorem uE (f:Str)(v:V):∀fs:List (Str×V),f∈(we f v fs).map (·.1)/\∀g,g∈fs.map (·.1)->g∈(we f v fs).map (·.1)
 |[]=>⟨by simp[we],λg h=>by simp at h⟩
 |(k,x)::r=>by
  obtain⟨i1,i2⟩:=uE f v r;rw[show we f v ((k,x)::r)=(if k=f then(k,v)::r else(k,x)::we f v r)from rfl];by_cases hk:k=f
  .rw[if_pos hk];subst hk;exact⟨by simp,λg h=>by simpa using h⟩
  .rw[if_neg hk];refine⟨?_,λg h=>?_⟩
   .rw[z27];exact z01 _ i1
   .rw[z27]at h ⊢;rcases zZ9.mp h with e|e
    .exact zZ9.mpr (.inl e)
    .exact z01 _ (i2 g e)
theorem tE (f:Str)(v:V):∀fs:List (Str×V),(we f v fs).length<=fs.length+1
 |[]=>by simp[we]
 |(k,x)::r=>by
  have a:=tE f v r;rw[show we f v ((k,x)::r)=(if k=f then(k,v)::r else(k,x)::we f v r)from rfl];by_cases hk:k=f
  .rw[if_pos hk,z28,z28];exact z23 _ _
  .rw[if_neg hk,z28,z28];exact Nat.add_le_add a (zZ8 _)
theorem vN.some_of {v:V}{o:Option Ab}(r:vN (some v) o):∃u,o=some u/\RelV v u:=by
 cases o with
 |none=>exact(r).elim
 |some u=>exact⟨u,rfl,r⟩
theorem vN.none_of {o:Option Ab}(r:vN none o):o=none:=by
 cases o with
 |none=>rfl
 |some u=>exact(r).elim
theorem eR {v:V}{u:Ab}(r:RelV v u):PySem.W.handedIn u=true:=by
 cases v with
 |non=>cases(r);rfl
 |bl b=>cases(r);rfl
 |int i=>obtain⟨t,e⟩:=(r);cases e;rfl
 |str x=>obtain⟨t,e⟩:=(r);cases e;rfl
 |byt b=>obtain⟨t,e⟩:=(r);cases e;rfl
 |flt b=>obtain⟨t,e⟩:=(r);cases e;rfl
 |ref a=>cases(r);rfl
 |ty n=>cases(r);rfl
section
variable {P:Ag}{w:Ai}{H H':Hp}{h h':Ao}{a C dx:Ae}{fs fs':List (Str×V)}
def sk (hok:HOk P w H h)(e:H a=some (.ins C dx fs)):∃mA,jf h a dx C mA/\(∀f,vN (fs.lookup f) (mA f))/\PySem.Within mA (fs.map (·.1))/\fs.length<=1000/\H dx=some (.own a):=by
 obtain⟨d,z,ne,ob,mA,n,r,q⟩:=(hok a _ e);exact⟨mA,⟨ob,n,ne⟩,r,q,z,d⟩
end
structure Cls (K:Ac)(C:Ae):Prop where
 pg:PySem.W.plainGet K C Str.empty=true
 hd:PySem.W.hasDictIn K C=true
 po:PySem.W.plainOver K C=true
 sa:PySem.W.findIn K (.ref C) "__setattr__"=some (some (.builtin "object.__setattr__"))
def Cls.get {K:Ac}{C:Ae}(c:Cls K C)(f:Str):PySem.W.plainGet K C f=true:=c.pg
def yG (K:Ac)(C:Ae)(f:Str):Prop:=PySem.W.findIn K (.ref C) f=some none
def yG.taker {K:Ac}{C:Ae}{f:Str}(n:yG K C f):PySem.W.takerIn K C f=some none:=by
 unfold PySem.W.takerIn;rw[show PySem.W.findIn K (.ref C) f=some none from n];rfl
structure Meth (K:Ac)(C:Ae)(m:Str)(f:Ae):Prop where
 at_:PySem.W.findIn K (.ref C) m=some (some (.ref f))
 fn:PySem.W.isFn K (.ref f)=true
 kp:PySem.W.keepIn K (.ref f)=true
section
variable {X:Cx}{pins:List (Ae×Obj)}{B:St}{H:Hp}{s:Ad}{a C dx:Ae}{fs:List (Str×V)}{f:Str}{v:V}{A:Am}{E:Ab->Ad->Prop}
def lY {b:Bool}{Q:Ab->Ad->Prop}(I:Inv X pins B H s)(e:H a=some (.ins C dx fs))(c:Cls X.K C)(n:yG X.K C f)(l:fs.lookup f=some v)
  (h:∀u s',Inv X pins B H s'->RelV v u->Q u s'):Aj (Al X.prog X.w) A (getAttr (.ref a) f b) Q E s:=by
 obtain⟨mA,O,r,_,_,_⟩:=sk I.hok e;obtain⟨u,g,d⟩:=vN.some_of (by rw[<-l];exact r f);exact get_map I.kIn O (c.get f) c.hd n g (eR d) (h u _ (I.tok _) d)
def vJ {m:Str}{g:Ae}{pl:Sem Bool}{Q:Ab×List Ab->Ad->Prop}(I:Inv X pins B H s)(e:H a=some (.ins C dx fs))(c:Cls X.K C)(k:Meth X.K C m g)(l:fs.lookup m=none)
  (h:Q (.ref g,[.ref a]) s):Aj (Al X.prog X.w) A (getMethod (.ref a) m pl) Q E s:=by
 obtain⟨mA,O,r,_,_,_⟩:=sk I.hok e;have hn:=vN.none_of (by rw[<-l];exact r m);exact aJ I.kIn O (c.get m) k.at_ k.fn hn h
def kR {y:V}{u:Ab}{Q:Unit->Ad->Prop}(I:Inv X pins B H s)(e:H a=some (.ins C dx fs))(c:Cls X.K C)(n:yG X.K C f)(k:fs.length<1000)(p:RelV y u)
  (h:∀s',Inv X pins B (upd H a (.ins C dx (we f y fs))) s'->Q () s'):Aj (Al X.prog X.w) A (setAttr (.ref a) f u) Q E s:=by
 obtain⟨mA,O,r,i,_,j⟩:=sk I.hok e;have m:(fs.map (·.1)).length<=sizeLine:=by rw[zZ2,z71];lia
 refine zi0 I.kIn O c.sa c.po n.taker c.hd i m λh' d l=>h _ ?_;have hd:∃o,h'.get? dx=some o:=let⟨o,_,_,e',_⟩:=d.ns;⟨o,e'⟩;refine I.write (by rw[e];exact True.intro) (.inr j) (λb q hb z=>(l.2 b hb).trans z) hd ?_;refine⟨by rw[zd O.ne];exact j,?_,O.ne,d.obj,_,d.ns,λg=>?_,λg hg=>?_⟩
 .have:=tE f y fs;exact z05 this k
 .rw[tj];by_cases q:g=f
  .rw[if_pos q,if_pos q];exact p
  .rw[if_neg q,if_neg q];exact r g
 .by_cases q:g=f
  .rw[q];exact(uE f y fs).1
  .refine(uE f y fs).2 g (i g λz=>hg ?_);show(if g=f then some u else mA g)=none;rw[if_neg q];exact z
def Inv.made (I:Inv X pins B H s):Inv X pins B (upd (upd H s.heap.objs.size (.own (s.heap.objs.size+1))) (s.heap.objs.size+1) (.ins C s.heap.objs.size []))
  {s with heap:=(s.heap.push PySem.W.emptyDict).push (PySem.W.instObj C s.heap.objs.size)}:=by
 have e1:(s.heap.push PySem.W.emptyDict).get? s.heap.objs.size=some PySem.W.emptyDict:=z08 s.heap rfl;have c:((s.heap.push PySem.W.emptyDict).push (PySem.W.instObj C s.heap.objs.size)).get? (s.heap.objs.size+1)=some (PySem.W.instObj C s.heap.objs.size):=by
  have:=z08 (s.heap.push PySem.W.emptyDict) (o:=PySem.W.instObj C s.heap.objs.size) rfl
  rwa [z81]at this
 have d:(s.heap.push PySem.W.emptyDict).Ns s.heap.objs.size (λ_=>none):=⟨PySem.W.emptyDict,#[],_,e1,rfl,(λe he=>absurd he (by simp)),λ_=>rfl⟩;refine(I.laid (o:=.own (s.heap.objs.size+1)) (t':=s.toks) (λb u q=>zZ4 _ q) (zZ8 _) ⟨_,e1⟩).laid (λb u q=>zZ4 _ q) (z26 (z81 _ _)) ?_;have ne:s.heap.objs.size≠s.heap.objs.size+1:=z30 (z64 _);refine⟨by rw[zd ne,zg],z21 _,ne,c,λ_=>none,(Heap.Ns1.of_empty d).at λo q=>zZ4 _ q,λ_=>True.intro,λy hy=>absurd rfl hy⟩
def zi9 {prog:Ag}{w:Ai}{env:Ar}{e:Ak}{f:Str}{pos:Pos}{s:Ad}{Q:Ab->Ad->Prop}(hb:attributeBase e f env (eval e env)=eval e env)
  (h:Aj (Al prog w) A (eval e env) (λo b=>Aj (Al prog w) A (getAttr o f true) Q E b) E s):Aj (Al prog w) A (eval (.Attribute e f pos) env) Q E s:=
 Attribute_any_ h (by rw[arm_eval_Attribute,hb])
end
def zV4 (K:Ac)(b:TE)(f:Str):TE:=λB H Q=>b B H λx H1=>∃a C dx fs v,x=.ref a/\H1 a=some (.ins C dx fs)/\Cls K C/\yG K C f/\fs.lookup f=some v/\Q v H1
def zV6 (K:Ac)(c d:TE)(f:Str):TS:=λD B H=>d B H λy H1=>c B H1 λx b=>∃a C dx fs,x=.ref a/\b a=some (.ins C dx fs)/\Cls K C/\yG K C f/\fs.length<1000/\
 D.nx B (upd b a (.ins C dx (we f y fs)))
section
variable {X:Cx}{o e value:Ak}{f:Str}{pos pos' tpos:Pos}{ta tv:TE}
def zC8 (he:PE X e ta)(hb:attributeBase e f X.env (eval e X.env)=eval e X.env):PE X (.Attribute e f pos) (zV4 X.K ta f):=by
 intro pins s B H Q I h;refine zi9 hb (thn (he pins s B H _ I h) λu s1 b=>?_);obtain⟨x,H1,d,k,a,C,dx,fs,v,ex,i,c,n,l,q⟩:=b;subst ex;obtain rfl:u=Value.ref a:=k;exact lY d i c n l λm s2 j g=>⟨v,H1,j,g,q⟩
def oE (ha:PE X o ta)(k:PE X value tv)(b:swapsWith value (some (.Attribute o f pos')) pos.line X.env=pure false):PS X (.Assign [.Attribute o f pos'] value pos) (zV6 X.K ta tv f):=by
 intro pins s B H D I h;refine plainObj_wpAny_Assign_Attribute (thn (k pins s B H _ I h) λu s1 ⟨y,H1,p,m,q⟩=>thn (ha pins s1 B H1 _ p q) λt s2 ⟨x,v,i,r,a,C,dx,fs,ex,g,c,n,l,j⟩=>?_) b;subst ex;obtain rfl:t=Value.ref a:=r;exact kR i g c n l m λs3 d=>⟨B,_,d,j⟩
def zz1 {pl:Sem Bool}{m:Str}{apos:Pos}{args:List Ak}{pins:List (Ae×Obj)}{s:Ad}{B:St}{H:Hp}{Q:Ab->Ad->Prop}{d:TE}(he:PE X e d)(I:Inv X pins B H s)
  (h:d B H λx H1=>∃a C dx fs g,x=.ref a/\H1 a=some (.ins C dx fs)/\Cls X.K C/\Meth X.K C m g/\fs.lookup m=none/\
   ∀s1,Inv X pins B H1 s1->Aj (Al X.prog X.w) X.A (callWith pos (.ref g) [.ref a] (backTo pos (Af args X.env)) (backToKw pos (keywordEach [] X.env))) Q X.xe s1)
  (n:eval (.Call (.Attribute e m apos) args [] pos) X.env=(do
   let ov <-eval e X.env
   standAt apos.atName
   let(f,first) <-holding [ov] (getMethod ov m pl)
   callWith pos f first (backTo pos (Af args X.env)) (backToKw pos (keywordEach [] X.env)))):
  Aj (Al X.prog X.w) X.A (eval (.Call (.Attribute e m apos) args [] pos) X.env) Q X.xe s:=by
 refine yh7 (thn (he pins s B H _ I h) λu s1 b=>?_) n;obtain⟨x,H1,i,j,a,C,dx,fs,g,ex,p,c,k,l,q⟩:=b;subst ex;obtain rfl:u=Value.ref a:=j;exact vJ i p c k l (q s1 i)
end
section
variable {X:Cx}{pins:List (Ae×Obj)}{B:St}{H:Hp}{s:Ad}{A:Am}{E:Ab->Ad->Prop}{Q:Ab->Ad->Prop}{c:Ab}{b:Bool}
inductive uD (K:Ac)(H:Hp):V->Ab->Prop where
 |non:uD K H .non (.type "NoneType")
 |bl (x:Bool):uD K H (.bl x) (.type "bool")
 |int (i:Int):uD K H (.int i) (.type "int")
 |str (x:Str):uD K H (.str x) (.type "str")
 |flt (x:UInt64):uD K H (.flt x) (.type "float")
 |lst {a:Ae}{xs:List V} (e:H a=some (.lst xs)):uD K H (.ref a) (.type "list")
 |frz {a:Ae}{o:Obj}{xs:List V} (e:H a=some (.frz o (.lst xs))):uD K H (.ref a) (.type "list")
 |tup {a:Ae}{xs:List V} (e:H a=some (.tup xs)):uD K H (.ref a) (.type "tuple")
 |dK {a:Ae}{kvs:List (Key×V)} (e:H a=some (.dK kvs)):uD K H (.ref a) (.type "dict")
 |dT {a:Ae}{kvs:List (List Key×V)} (e:H a=some (.dT kvs)):uD K H (.ref a) (.type "dict")
 |ins {a C dx:Ae}{fs:List (Str×V)} (e:H a=some (.ins C dx fs)) (cl:Cls K C) (ha:PySem.W.findIn K (.ref C) "__class__"=some (some (.builtin "object.__class__")))
   (hn:PySem.W.specialIn K (.builtin "object.__class__") "__get__"=some (some (.builtin "getset_descriptor.__get__"))) (htk:PySem.W.takesIn K (.builtin "object.__class__")=some true)
   (hm:PySem.W.mroIn K C (.type "object")=some true):uD K H (.ref a) (.ref C)
theorem eO {x:V}{u t:Ab}(I:Inv X pins B H s)(d:RelV x u)(ty:uD X.K H x t)(e:PySem.W.kitOne X.K t c=some b)(h:∀j,Q (.bool b) {s with toks:=j}):
  Aj (Al X.prog X.w) A (call (.builtin "isinstance") [u,c]) Q E s:=by
 cases ty with
 |non=>cases(d);exact z77 PySem.W.kitx_none I.kIn True.intro e (λz=>nomatch z) h
 |bl y=>cases(d);exact z77 PySem.W.kitx_bool I.kIn True.intro e (λz=>nomatch z) h
 |int i=>obtain⟨t,q⟩:=(d);cases q;exact z77 PySem.W.kitx_int I.kIn True.intro e (λz=>nomatch z) h
 |str y=>obtain⟨t,q⟩:=(d);cases q;exact z77 PySem.W.kitx_str I.kIn True.intro e (λz=>nomatch z) h
 |flt y=>obtain⟨t,q⟩:=(d);cases q;exact z77 PySem.W.kitx_float I.kIn True.intro e (λz=>nomatch z) h
 |@lst a xs ea=>
  cases(d);obtain⟨_,_,n,_,h1⟩:=(I.hok a _ ea);exact z77 PySem.W.kitx_list I.kIn ⟨_,h1,rfl⟩ e (λz=>nomatch z) h
 |@frz a ob xs ea=>
  cases(d);obtain⟨_,_,_,n,_,h1⟩:=(I.hok a _ ea);exact z77 PySem.W.kitx_list I.kIn ⟨_,h1,rfl⟩ e (λz=>nomatch z) h
 |@tup a xs ea=>
  cases(d);obtain⟨_,_,_,p⟩:=(I.hok a _ ea);obtain⟨o,h1,h2,_⟩:=p;exact z77 PySem.W.kitx_tuple I.kIn ⟨o,h1,h2⟩ e (λz=>nomatch z) h
 |@dK a kvs ea=>
  cases(d);obtain⟨_,_,vs,_,p⟩:=(I.hok a _ ea);obtain⟨o,g,f,h1,h2,_⟩:=p;exact z77 PySem.W.kitx_dict I.kIn ⟨o,h1,h2.1⟩ e (λz=>nomatch z) h
 |@dT a kvs ea=>
  cases(d);obtain⟨_,_,xs,_,o,g,f,h1,h2,_⟩:=(I.hok a _ ea);exact z77 PySem.W.kitx_dict I.kIn ⟨o,h1,h2.1⟩ e (λz=>nomatch z) h
 |@ins a C dx fs ea cl ha hn htk hm=>
  cases(d);obtain⟨mA,O,_⟩:=sk I.hok ea;obtain⟨od,J,_⟩:=O.look;exact z77 (PySem.W.kitx_own (cl.get _) cl.hd ha hn htk hm) I.kIn J e (λz=>nomatch z) h
end
structure zR (k:Nat)(A:Am):Prop where
 hd:A.handled=none
 dp:A.depth+3*k+5<recursionLimit
 un:A.units+16*k+200<cLine
 gd:A.guards=some []
def zR.mono {j k:Nat}{A:Am}(r:zR k A)(h:j<=k):zR j A:=⟨r.hd,by have:=r.dp;lia,by have:=r.un;lia,r.gd⟩
theorem zR.deeper {k:Nat}{A:Am}(r:zR (k+1) A)(env:Ar):zR k (A.deeper env):=
 ⟨r.hd,by have:=r.dp;show A.depth+1+3*k+5<_;exact zt7 this,by have:=r.un;show A.units+3+16*k+200<_;lia,r.gd⟩
theorem zR.in1 {k:Nat}{A:Am}(r:zR (k+1) A):zR k A.in1:=
 ⟨r.hd,by have:=r.dp;show A.depth+3*k+5<_;lia,by have:=r.un;show A.units+1+16*k+200<_;exact zv2 this,r.gd⟩
def je {A:Am}{C:Ae}{us:List Ab}{kw:List (Str×Ab)}:(A.under (.builtin "type.__call__" ⟨.ref C::us,kw⟩)).depth=A.depth+1:=by
 first|rfl|simp[Around.under,Code.weight,Code.isCreation,Code.isGuard,Code.isCaller,Code.frames,Code.isFrame,guardIds]
def lE {A:Am}{C:Ae}{us:List Ab}{kw:List (Str×Ab)}:(A.under (.builtin "type.__call__" ⟨.ref C::us,kw⟩)).units=A.units+1:=by
 first|rfl|simp[Around.under,Code.cUnits,Code.frames,Code.isFrame]
def nG {A:Am}{C:Ae}{us:List Ab}{kw:List (Str×Ab)}:(A.under (.builtin "type.__call__" ⟨.ref C::us,kw⟩)).guards=A.guards:=by
 first|rfl|simp[Around.under,Code.guards,Code.isGuard,guardIds,pushGuards]
def zR.make {k:Nat}{A:Am}(r:zR (k+1) A)(C:Ae)(us:List Ab)(kw:List (Str×Ab)):zR k (A.under (.builtin "type.__call__" ⟨.ref C::us,kw⟩)):=
 ⟨r.hd,by have:=r.dp;rw[je];exact zt7 this,by have:=r.un;rw[lE];exact zv2 this,(nG).trans r.gd⟩
theorem zR.depth {k:Nat}{A:Am}(r:zR k A):A.depth<recursionLimit:=by have:=r.dp;exact z29 (z23 _ _) (z29 (z23 _ _) this)
theorem zR.units {k:Nat}{A:Am}(r:zR k A):A.units+64<cLine:=by have:=r.un;lia
def zL2 :TA:=λ_ H Q=>Q [] H
def zT4 (a:TE)(tr:TA):TA:=λB H Q=>a B H λx H1=>tr B H1 λxs b=>Q (x::xs) b
section
variable {X:Cx}{e:Ak}{es:List Ak}{te:TE}{t:TA}{pos:Pos}
def zD :PA X [] zL2:=λ_ _ _ _ H Q I h=>Calls.spliced_nil ⟨[],H,I,.nil,h⟩
def zr (ha:PE X e te)(hr:PA X es t)(c:Af (e::es) X.env=(false,eval e X.env)::Af es X.env:=by rfl):PA X (e::es) (zT4 te t):=by
 intro pos pins s B H Q I h;rw[c];refine Calls.spliced_cons (thn (ha pins s B H _ I h) λu s1 b=>?_);obtain⟨x,H1,k,f,d⟩:=b;exact thn (hr pos pins s1 B H1 _ k d) λus s2 a=>by obtain⟨xs,l,i,g,j⟩:=a;exact⟨x::xs,l,i,.cons f g,j⟩
def zU8 (t:TA):TE:=λB H Q=>t B H λxs H1=>xs.length<=sizeLine/\∀p,H1 p=none->Q (.ref p) (upd H1 p (.tup xs))
def zX5 (t:TA):TE:=λB H Q=>t B H λxs H1=>xs.length<=sizeLine/\∀p,H1 p=none->Q (.ref p) (upd H1 p (.lst xs))
def kD {x1}(h:PA X es t):PE X (.Tuple es x1 pos) (zU8 t):=by
 intro pins s B H Q I hq;refine wpAny_Tuple_spliced (thn (h pos pins s B H _ I hq) λus s1 ⟨xs,H1,a,r,z,q⟩=>⟨by rw[<-r.length];exact z,?_⟩);refine⟨.ref s1.heap.objs.size,upd H1 s1.heap.objs.size (.tup xs),a.laid (λb u e=>zZ4 _ e) (zZ8 _) ?_,rfl,q _ (a.hok.fresh (zZ8 _))⟩;exact⟨z,us,r,⟨_,z08 _ rfl,rfl,_,rfl⟩⟩
def zc6 (h:PA X es t):PE X (.List es pos) (zX5 t):=by
 intro pins s B H Q I hq;refine wpAny_List_spliced (thn (h pos pins s B H _ I hq) λus s1 ⟨xs,H1,a,r,z,q⟩=>⟨by rw[<-r.length];exact z,?_⟩);refine⟨.ref s1.heap.objs.size,upd H1 s1.heap.objs.size (.lst xs),a.laid (λb u e=>zZ4 _ e) (zZ8 _) ?_,rfl,q _ (a.hok.fresh (zZ8 _))⟩;exact⟨z,us,0,r,z08 _ rfl⟩
end
abbrev Sp :=List V->Hp->VK->XK->Prop
abbrev CXT :=List Ar->Hp->Ad->XK->Ab->Ad->Prop
structure uO (P:Ag)(w:Ai)(K:Ac)(mg:Str->Option Ab)(base:Ao)(A:Am)(outer:List Ar)(s:Ad)(H:Hp):Prop where
 frames:A.frames=some outer
 mod:Mod K mg base
 bs:∀b o,base.get? b=some o->s.heap.get? b=some o/\H b=none
 bsz:base.objs.size<=s.heap.objs.size
 funs:s.heap.FunFrames base outer
 frf:∀b∈frs outer,H b=none
 hok:HOk P w H s.heap
 bare:AllBare s.gens
def CE (outer:List Ar)(P:Ag)(w:Ai)(H:Hp)(s:Ad)(Q:VK)(u:Ab)(s':Ad):Prop:=
 ∃v H',s'.os=s.os/\AllBare s'.gens/\Un (frs outer) [] H H' s.heap s'.heap/\HOk P w H' s'.heap/\RelV v u/\Q v H'
def CR (CX:CXT)(outer:List Ar)(P:Ag)(w:Ai)(H:Hp)(s:Ad)(Q:VK)(E:XK)(r:Result)(s':Ad):Prop:=
 match r with
 |.ok (.ret u)=>CE outer P w H s Q u s'
 |.ok _=>False
 |.error e=>CX outer H s E e s'
structure yE (P:Ag)(w:Ai)(K:Ac)(mg:Str->Option Ab)(base:Ao)(CX:CXT)(k:Nat)(f:Ae)(fd:Ap)(ps:List Str)(sp:Sp):Prop where
 len:∀vs H Q E,sp vs H Q E->vs.length=ps.length
 run:∀(A:Am) (outer:List Ar) (s:Ad) (H:Hp) (args:Args) (us:List Ab) (vs:List V) (Q:VK) (E:XK),zR k A->uO P w K mg base A outer s H->BindsTo s fd args (ps.zip us)->Vals vs us->sp vs H Q E->
  codeAny (Al P w) A (.call (.ref f) args) (CR CX outer P w H s Q E) s
def yE.imp {P:Ag}{w:Ai}{K:Ac}{mg:Str->Option Ab}{base:Ao}{CX:CXT}{k:Nat}{f:Ae}{fd:Ap}{ps:List Str}{sp a:Sp}(F:yE P w K mg base CX k f fd ps sp)
  (h:∀vs H Q E,a vs H Q E->sp vs H Q E):yE P w K mg base CX k f fd ps a:=
 ⟨λvs H Q E q=>F.len vs H Q E (h _ _ _ _ q),λA outer s H args us vs Q E hr he hb c b=>F.run A outer s H args us vs Q E hr he hb c (h _ _ _ _ b)⟩
def uO.make {P:Ag}{w:Ai}{K:Ac}{mg:Str->Option Ab}{base:Ao}{A:Am}{outer:List Ar}{s:Ad}{H:Hp}(e:uO P w K mg base A outer s H)(C:Ae)(us:List Ab)(kw:List (Str×Ab)):
  uO P w K mg base (A.under (.builtin "type.__call__" ⟨.ref C::us,kw⟩)) outer s H:=⟨by first|exact e.frames|(simpa[Around.under,Code.envs,Code.isFrame,pushEnvs]using e.frames),e.mod,e.bs,e.bsz,e.funs,e.frf,e.hok,e.bare⟩
theorem uO.in1 {P:Ag}{w:Ai}{K:Ac}{mg:Str->Option Ab}{base:Ao}{A:Am}{outer:List Ar}{s:Ad}{H:Hp}(e:uO P w K mg base A outer s H):
  uO P w K mg base A.in1 outer s H:=⟨e.frames,e.mod,e.bs,e.bsz,e.funs,e.frf,e.hok,e.bare⟩
section
variable {X:Cx}{pins:List (Ae×Obj)}{B:St}{H:Hp}{s s':Ad}
def Inv.env0 (I:Inv X pins B H s):uO X.prog X.w X.K X.mg X.base X.A X.stack s H:=
 ⟨I.ok.frames,I.ok.mod,I.bs,z05 I.ok.bsz I.sz,I.stack,I.stkFree,I.hok,I.bare⟩
def Inv.after {Q:VK}{u:Ab}(I:Inv X pins B H s)(h:CE X.stack X.prog X.w H s Q u s'):EP X pins B Q u s':=by
 obtain⟨v,H',os,bare,un,hok,r,q⟩:=h;obtain⟨c,g,d,t,a⟩:=s';obtain rfl:a=s.os:=os;exact⟨v,H',I.call un hok bare (λb z=>absurd z (by simp)),r,q⟩
end
def zO7 (sp:Sp)(dvs:List V)(E:XK)(t:TA):TE:=λB H Q=>t B H λvs H1=>sp (vs++dvs) H1 Q E
def zy7 (C:Ae)(m:Str)(sp:Sp)(dvs:List V)(E:XK)(b:TE)(t:TA):TE:=λB H Q=>b B H λx H1=>∃a dx fs,x=.ref a/\H1 a=some (.ins C dx fs)/\fs.lookup m=none/\
 t B H1 λvs c=>sp (x::(vs++dvs)) c Q E
def zU0 (C:Ae)(sp:Sp)(dvs:List V)(E:XK)(t:TA):TE:=λB H Q=>t B H λvs H1=>∀x dx,H1 x=none->H1 dx=none->dx≠x->
 sp (.ref x::(vs++dvs)) (upd (upd H1 dx (.own x)) x (.ins C dx [])) (λv a=>v=.non/\Q (.ref x) a) E
def Binds (K:Ac)(fd:Ap)(ps:List Str)(ds:List Ab):Prop:=
 ∀(s:Ad) (us:List Ab),K.In s.heap->(us++ds).length=ps.length->BindsTo s fd ⟨us,[]⟩ (ps.zip (us++ds))
def Binds.all {K:Ac}{fd:Ap}{ps:List Str}(h:∀us:List Ab,us.length=ps.length->bindArgs fd ⟨us,[]⟩=pure (ps.zip us)):Binds K fd ps []:=λs us _ a=>by
 rw[z73]at a ⊢;exact .of_eq (h us a)
def Passes (CX:CXT)(X:Cx)(E:XK):Prop:=∀(pins:List (Ae×Obj)) (B:St) (H:Hp) (s:Ad) (e:Ab) (s':Ad),Inv X pins B H s->CX X.stack H s E e s'->X.xe e s'
section
variable {X:Cx}{CX:CXT}{k:Nat}{f C:Ae}{fd:Ap}{ps:List Str}{sp:Sp}{dvs:List V}{ds:List Ab}{E:XK}{x m:Str}{p pos apos:Pos}{e o:Ak}{es:List Ak}{ta:TE}{t:TA}
theorem kZ {pins:List (Ae×Obj)}{B:St}{H:Hp}{s:Ad}{Q:VK}{us:List Ab}{vs:List V}(F:yE X.prog X.w X.K X.mg X.base CX k f fd ps sp)(hr:zR k X.A)(hb:Binds X.K fd ps ds)(hd:Vals dvs ds)(c:Passes CX X E)
  (I:Inv X pins B H s) (r:Vals vs us) (h:sp (vs++dvs) H Q E):Aj (Al X.prog X.w) X.A (call (.ref f) us) (EP X pins B Q) X.xe s:=by
 have a:=r.append hd;have b:(us++ds).length=ps.length:=by rw[<-a.length];exact F.len _ _ _ _ h
 refine wpAny_call (yi4 (F.run X.A X.stack s H ⟨us,[]⟩ (us++ds) (vs++dvs) Q E hr I.env0 (hb s us I.kIn b) a h) λr s' hq=>?_);cases r with
 |error e=>exact c pins B H s e s' I hq
 |ok d=>
  cases d with
  |ret u=>exact I.after hq
  |next=>exact False.elim hq
  |brk=>exact False.elim hq
  |cont=>exact False.elim hq
def pS (F:yE X.prog X.w X.K X.mg X.base CX k f fd ps sp)(hr:zR k X.A)(hg:Gl X x)(hm:X.mg x=some (.ref f))(hk:PySem.W.keepIn X.K (.ref f)=true)(hb:Binds X.K fd ps ds)(hd:Vals dvs ds)(d:Passes CX X E)
  (ha:PA X (e::es) t) (b:(x == ("__debug__":Str))=false:=by decide) (he:Af (e::es) X.env=(false,eval e X.env)::Af es X.env:=by rfl) (hpl:(backTo pos (Af es X.env)).any (·.1)=false:=by rfl):
  PE X (.Call (.Name x p) (e::es) [] pos) (zO7 sp dvs E t):=by
 intro pins s B H Q I h;refine yc5 (si I hg hm (yj8 I.ok.mod.kin hk (thn (ha pos pins s B H _ I h) λus s1 a=>?_) he hpl) b);obtain⟨vs,H1,c,r,q⟩:=a;exact⟨c.kIn,kZ F hr hb hd d c r q⟩
def zf9 {pl:Sem Bool}(he:PE X o ta)(c:Cls X.K C)(hm:Meth X.K C m f)(F:yE X.prog X.w X.K X.mg X.base CX k f fd ps sp)(hr:zR k X.A)(hb:Binds X.K fd ps ds)(hd:Vals dvs ds)(y:Passes CX X E)(ha:PA X (e::es) t)
  (g:Af (e::es) X.env=(false,eval e X.env)::Af es X.env:=by rfl) (hpl:(backTo pos (Af es X.env)).any (·.1)=false:=by rfl)
  (D:eval (.Call (.Attribute o m apos) (e::es) [] pos) X.env=(do
   let ov <-eval o X.env
   standAt apos.atName
   let(f,first) <-holding [ov] (getMethod ov m pl)
   callWith pos f first (backTo pos (Af (e::es) X.env)) (backToKw pos (keywordEach [] X.env))):=by rfl):
  PE X (.Call (.Attribute o m apos) (e::es) [] pos) (zy7 C m sp dvs E ta t):=by
 intro pins s B H Q I h;refine yh7 (thn (he pins s B H _ I h) λu s1 d=>?_) D;obtain⟨x,H1,j,v,a,dx,fs,ex,z,l,q⟩:=d;subst ex;obtain rfl:u=Value.ref a:=v;refine vJ j z c hm l ?_;refine yj8 I.ok.mod.kin hm.kp (thn (ha pos pins s1 B H1 _ j q) λus s2 b=>?_) g hpl;obtain⟨vs,G,i,r,n⟩:=b;exact⟨i.kIn,kZ (vs:=.ref a::vs) F hr hb hd y i (.cons rfl r) n⟩
def aK {pl:Sem Bool}(he:PE X o ta)(c:Cls X.K C)(hm:Meth X.K C m f)(F:yE X.prog X.w X.K X.mg X.base CX k f fd ps sp)(hr:zR k X.A)(hb:Binds X.K fd ps ds)(hd:Vals dvs ds)(g:Passes CX X E)
  (j:eval (.Call (.Attribute o m apos) [] [] pos) X.env=(do
   let ov <-eval o X.env
   standAt apos.atName
   let(f,first) <-holding [ov] (getMethod ov m pl)
   callWith pos f first (backTo pos (Af [] X.env)) (backToKw pos (keywordEach [] X.env))):=by rfl):
  PE X (.Call (.Attribute o m apos) [] [] pos) (zy7 C m sp dvs E ta zL2):=by
 intro pins s B H Q I h;refine yh7 (thn (he pins s B H _ I h) λu s1 b=>?_) j;obtain⟨x,H1,d,n,a,dx,fs,ex,i,l,q⟩:=b;subst ex;obtain rfl:u=Value.ref a:=n;refine vJ d i c hm l ?_;exact PySem.W.callWith_K0 d.kIn hm.kp (kZ (vs:=[.ref a]) F hr hb hd g d (.cons rfl .nil) q)
structure Mk (K:Ac)(C f:Ae):Prop where
 makes:PySem.W.makesIn K C=true
 init:PySem.W.findIn K (.ref C) "__init__"=some (some (.ref f))
 fn:PySem.W.isFn K (.ref f)=true
 kp:PySem.W.keepIn K (.ref C)=true
theorem zd5 {pins:List (Ae×Obj)}{B:St}{H:Hp}{s:Ad}{Q:VK}{us:List Ab}{vs:List V}(M:Mk X.K C f)(F:yE X.prog X.w X.K X.mg X.base CX k f fd ps sp)(hr:zR (k+1) X.A)(hb:Binds X.K fd ps ds)(hd:Vals dvs ds)
  (l:Passes CX X E) (I:Inv X pins B H s) (r:Vals vs us)
  (h:∀x dx,H x=none->H dx=none->dx≠x->sp (.ref x::(vs++dvs)) (upd (upd H dx (.own x)) x (.ins C dx [])) (λv q=>v=.non/\Q (.ref x) q) E):
  Aj (Al X.prog X.w) X.A (call (.ref C) us) (EP X pins B Q) X.xe s:=by
 have hq:=h (s.heap.objs.size+1) s.heap.objs.size (I.hok.fresh (ya1 _)) (I.hok.fresh (zZ8 _)) (z30 (z64 _));have b:=Inv.made (C:=C) I;have c:Vals (V.ref (s.heap.objs.size+1)::(vs++dvs)) (Value.ref (s.heap.objs.size+1)::(us++ds)):=.cons rfl (r.append hd);have i:(Value.ref (s.heap.objs.size+1)::us++ds).length=ps.length:=by
  have e:=c.length;rw[F.len _ _ _ _ hq]at e;exact e.symm
 refine wpAny_call (aE I.kIn M.makes M.init (beq_iff_eq.mp M.fn) (yi4 (F.run _ X.stack _ _ ⟨Value.ref (s.heap.objs.size+1)::us,[]⟩ (Value.ref (s.heap.objs.size+1)::(us++ds)) _ _ E (hr.make C us [])
  (b.env0.make C us []) (hb _ (Value.ref (s.heap.objs.size+1)::us) b.kIn i) c hq) λr s' a=>?_))
 cases r with
 |error e=>exact l pins B _ _ e s' b a
 |ok g=>
  cases g with
  |ret u=>
   obtain⟨v,H',d,n,ev,j⟩:=b.after a;subst ev;exact⟨n,⟨V.ref (s.heap.objs.size+1),H',d,rfl,j⟩⟩
  |next=>exact False.elim a
  |brk=>exact False.elim a
  |cont=>exact False.elim a
def zl6 (M:Mk X.K C f)(F:yE X.prog X.w X.K X.mg X.base CX k f fd ps sp)(hr:zR (k+1) X.A)(hg:Gl X x)(hm:X.mg x=some (.ref C))(hb:Binds X.K fd ps ds)(hd:Vals dvs ds)(d:Passes CX X E)
  (ha:PA X (e::es) t) (b:(x == ("__debug__":Str))=false:=by decide) (he:Af (e::es) X.env=(false,eval e X.env)::Af es X.env:=by rfl) (hpl:(backTo pos (Af es X.env)).any (·.1)=false:=by rfl):
  PE X (.Call (.Name x p) (e::es) [] pos) (zU0 C sp dvs E t):=by
 intro pins s B H Q I h;refine yc5 (si I hg hm (yj8 I.ok.mod.kin M.kp (thn (ha pos pins s B H _ I h) λus s1 a=>?_) he hpl) b);obtain⟨vs,H1,c,r,q⟩:=a;exact⟨c.kIn,zd5 M F hr hb hd d c r q⟩
end
section
variable {X:Cx}{CX:CXT}{k:Nat}{f C:Ae}{fd:Ap}{ps ks:List Str}{sp:Sp}{E:XK}{x m:Str}{p pos apos kpos:Pos}{e o:Ak}{es:List Ak}{kws:List Keyword}{te ta:TE}{t tk:TA}{nm:Option Str}
variable {g:List Ab->List Ab->List Ab}{gV:List V->List V->List V}
end
structure ya (N P:List Str)(sc:Aq):Prop where
 kind:sc.kind=.function
 co:sc.isCoroutine=false
 gen:sc.isGenerator=false
 nd:N.Nodup
 pre:N.take P.length=P
 par:∀x∈P,sc.names.lookup x=some .local\/sc.names.lookup x=some .cell
 nofree:∀y∈sc.names,y.2≠.free
theorem qP {kindOf:Str->Option NameKind}{x:Str}:∀{binds:List (Str×Ab)}{m:Str->Option Ab},(∀v,(x,v)∉binds)->bindL kindOf binds m x=m x
 |[],_,_=>rfl
 |(n,v)::r,m,h=>by
  unfold bindL;rw[qP λw hw=>h w (z01 _ hw)];split
  .have:x≠n:=by rintro rfl;exact h v z03
   simp[this]
  .rfl
theorem qS {kindOf:Str->Option NameKind}{x:Str}:∀{binds:List (Str×Ab)}{m:Str->Option Ab},(∀v,(x,v)∉binds)->bindC kindOf binds m x=m x
 |[],_,_=>rfl
 |(n,v)::r,m,h=>by
  unfold bindC;rw[qS λw hw=>h w (z01 _ hw)];split
  .rfl
  .have:x≠n:=by rintro rfl;exact h v z03
   simp[this]
theorem qK {kindOf:Str->Option NameKind}{x:Str}{v:Ab}:∀{P:List Str}{vs:List Ab}{i:Nat}{m:Str->Option Ab},P.Nodup->P[i]?=some x->vs[i]?=some v->kindOf x=some .local->
  bindL kindOf (P.zip vs) m x=some v
 |[],_,_,_,_,h,_,_=>by simp at h
 |_::_,[],_,_,_,_,h,_=>by simp at h
 |p::P,w::vs,0,m,nd,h1,h2,hk=>by
  simp at h1 h2;subst h1;subst h2;show bindL kindOf ((p,w)::P.zip vs) m p=_;unfold bindL;rw[qP λv a=>(yi5.mp nd).1 (List.of_mem_zip a).1,if_pos hk];simp
 |p::P,w::vs,i+1,m,nd,h1,h2,hk=>by
  show bindL kindOf ((p,w)::P.zip vs) m x=_;unfold bindL;exact qK (i:=i) (yi5.mp nd).2 (by simpa using h1) (by simpa using h2) hk
theorem qJ {kindOf:Str->Option NameKind}{x:Str}{v:Ab}:∀{P:List Str}{vs:List Ab}{i:Nat}{m:Str->Option Ab},P.Nodup->P[i]?=some x->vs[i]?=some v->kindOf x≠some .local->
  bindC kindOf (P.zip vs) m x=some v
 |[],_,_,_,_,h,_,_=>by simp at h
 |_::_,[],_,_,_,_,h,_=>by simp at h
 |p::P,w::vs,0,m,nd,h1,h2,hk=>by
  simp at h1 h2;subst h1;subst h2;show bindC kindOf ((p,w)::P.zip vs) m p=_;unfold bindC;rw[qS λv a=>(yi5.mp nd).1 (List.of_mem_zip a).1,if_neg hk];simp
 |p::P,w::vs,i+1,m,nd,h1,h2,hk=>by
  show bindC kindOf ((p,w)::P.zip vs) m x=_;unfold bindC;exact qJ (i:=i) (yi5.mp nd).2 (by simpa using h1) (by simpa using h2) hk
noncomputable def start (N:List Str)(vs:List V):St:=vs.map some++List.replicate (N.length-vs.length) none
noncomputable def vv (CX:CXT)(P:Ag)(w:Ai)(K:Ac)(mg:Str->Option Ab)(base:Ao)(N:List Str)(qual:Str)(scope:Aq)(f:Ae)(cd:Ab)(A:Am)(outer:List Ar)(s:Ad)(H:Hp)(E:XK):Cx where
 prog:=P
 w:=w
 K:=K
 mg:=mg
 base:=base
 A:=A.deeper (envOfC qual scope s.heap.objs.size f cd)
 N:=N
 s₀:=s
 H₀:=H
 env:=envOfC qual scope s.heap.objs.size f cd
 outer:=outer
 stack:=envOfC qual scope s.heap.objs.size f cd::outer
 ex:=[]
 calm:=true
 fn:=λ_=>true
 pn:=[]
 xe:=λe s'=>Aj (Al P w) (A.deeper (envOfC qual scope s.heap.objs.size f cd)) (leaving (envOfC qual scope s.heap.objs.size f cd) e) (λ_ a=>CX outer H s E e a) (λb a=>CX outer H s E b a) s'
def mv {sc:Aq}{n:Nat}{x:Str}(h:sc.names.lookup x=some .cell):∃c,(cellsFrom n sc.names []).lookup x=some c:=yf6.mp (PySem.W.cellsFrom_some sc.names n [] (.inl h))
def gG {CX:CXT}{P:Ag}{w:Ai}{K:Ac}{mg:Str->Option Ab}{base:Ao}{N ps:List Str}{qual:Str}{scope:Aq}{f:Ae}{cd:Ab}{A:Am}{outer:List Ar}{s s1:Ad}{H:Hp}{E:XK}{us:List Ab}{vs:List V}
  (S:ya N ps scope) (hd:A.handled=none) (d:uO P w K mg base A outer s H) (m:vs.length=ps.length) (r:Vals vs us)
  (x:InCallC s s.heap.objs.size (bindL (envOfC qual scope s.heap.objs.size f cd).kindOf (ps.zip us) λ_=>none) (cellsFrom (s.heap.objs.size+1) scope.names []) (bindC (envOfC qual scope s.heap.objs.size f cd).kindOf (ps.zip us) λ_=>none) s1):
  Inv (vv CX P w K mg base N qual scope f cd A outer s H E) [] (start N vs) H s1:=by
 have hpl:ps.length<=N.length:=by have:=congrArg List.length S.pre;rw[z49]at this;exact z05 (z26 this.symm) (yh3 _ _)
 obtain⟨h1,t,rfl,hk⟩:=x.done;have g:∀b:Ae,b∉(vv CX P w K mg base N qual scope f cd A outer s H E).ex:=λb z=>absurd (show b∈([]:List Ae)from z) (by simp);refine⟨⟨d.mod,S.kind,rfl,rfl,zZ8 _,λy z c h1 h2=>?_,λy hy=>?_,λy c _ h=>?_,λ_=>hd,Around.frames_deeper d.frames,.inr ⟨rfl,rfl⟩,λb z=>absurd z (g b),d.bs,d.bsz,λb _ _=>g b,λb z=>absurd z (g b),d.funs,d.frf⟩,
  rfl,d.bare,Un.kept hk,⟨_,x.toInCall.ns,λi y v h1 h2 h3=>?_⟩,λy c h=>⟨_,x.cell y c h⟩,d.hok.fresh (zZ8 _),λy c h=>?_,λp l=>absurd (show p∈([]:List (Ae×Obj))from l) (by simp),d.hok.kept hk,?_⟩
 .exact name_of_addr x.apart (z70 h1) (z70 h2)
 .have hy:=hy;rcases hy with hy|hy
  .exact mv hy
  .exact absurd rfl (S.nofree _ (z70 hy))
 .exact z58 (x.above y c (z70 h))
 .have hi:i<vs.length:=by
   unfold start at h2;by_cases hi:i<vs.length
   .exact hi
   .rw[yb6 (by simpa using hi)]at h2;rw[ya6]at h2;split at h2<;>cases h2
  have ha:vs[i]?=some v:=by
   unfold start at h2;rw[z83 (by simpa using hi),z04]at h2;cases e:vs[i]? with
   |none=>rw[e]at h2;cases h2
   |some a=>rw[e]at h2;cases h2;rfl
  obtain⟨u,n,o⟩:=r.get ha;have l:ps[i]?=some y:=by rw[<-S.pre,List.getElem?_take_of_lt (zZ7 hi (z26 m))];exact h1
  have j:ps.Nodup:=by rw[<-S.pre];exact S.nd.sublist (List.take_sublist _ _)
  refine⟨u,o,?_⟩;rcases S.par y (z47 l)with k|k
  .exact .inl ⟨k,qK j l n k⟩
  .obtain⟨c,e⟩:=mv k;refine .inr ⟨.inl k,c,e,?_⟩;have q:=x.cell y c e;rw[qJ j l n (by show scope.names.lookup y≠_;rw[k];decide)]at q;exact q
 .exact d.hok.fresh (z58 (x.above y c (z70 h)))
 .unfold start;rw[z24,zZ2,List.length_replicate];exact zS7 m hpl
theorem bE {CX:CXT}{P:Ag}{w:Ai}{K:Ac}{mg:Str->Option Ab}{base:Ao}{k:Nat}{f:Ae}{name qual:Str}{params:Arguments}{body:List An}{scope:Aq}{dV kV doc pm cdv ct oc:Ab}{an od:Option Ae}
  {osl:Array (Option Ab)} {N ps:List Str} {sp:Sp} (B:K.lookup f=some ⟨oc,od,.func (PySem.W.fnOf name qual params body scope dV kV doc pm an cdv ct),osl⟩) (l:PySem.W.codeIn K cdv qual=true) (S:ya N ps scope)
  (len:∀vs H Q E,sp vs H Q E->vs.length=ps.length)
  (c:∀(A:Am) (outer:List Ar) (s:Ad) (H:Hp) (vs:List V) (Q:VK) (E:XK),zR k (A.deeper (envOfC qual scope s.heap.objs.size f cdv))->sp vs H Q E->
   ∃t,PSs (vv CX P w K mg base N qual scope f cdv A outer s H E) body t/\t {nx:=λ_ H'=>Q .non H',rt:=Q} (start N vs) H):
  yE P w K mg base CX (k+1) f (PySem.W.fnOf name qual params body scope dV kV doc pm an cdv ct) ps sp:=by
 refine⟨len,λA outer s H args us vs Q E hr h hb r i=>?_⟩;have p:=h.mod.kin.keeps λb o e=>(h.bs b o e).1;have d:∀y∈ps.zip us,scope.names.lookup y.1=some .local\/(scope.names.lookup y.1=some .cell/\((cellsFrom (s.heap.objs.size+1) scope.names []).lookup y.1).isSome=true):=λj hy=>by
  obtain⟨n,v⟩:=j;rcases S.par n (List.of_mem_zip hy).1 with q|q
  .exact .inl q
  .exact .inr ⟨q,PySem.W.cellsFrom_some _ _ _ (.inl q)⟩
 refine codeAny_call_function hr.depth (p _ _ B) rfl S.co S.gen rfl (PySem.W.codeRec_of p l) (hb _ _ _ _ (wpAny_newFunctionEnv_cells S.kind d λenv he s1 x=>?_));subst he;refine⟨(h.mod.nolimit.keeps λb o e=>(h.bs b o e).1).keeps x.toInCall.keep,codeAny_func ?_⟩;obtain⟨t,C,hq⟩:=c A outer s H vs Q E (hr.deeper _) i;have I:Inv (vv CX P w K mg base N qual scope f cdv A outer s H E) [] (start N vs) H s1:=gG S hr.hd h (len _ _ _ _ i) r x;refine z60 (C [] s1 (start N vs) H _ I hq) (λz s' g=>?_) λe s' g=>g;have fin:∀{a:St} {H':Hp} {v:V} {u:Ab},Inv (vv CX P w K mg base N qual scope f cdv A outer s H E) [] a H' s'->RelV v u->Q v H'->CE outer P w H s Q u s':=
  λ{a H' v u} J m q=>⟨v,H',J.os,J.bare,J.base,J.hok,m,q⟩
 cases z with
 |ret u=>
  obtain⟨v,a,H',J,m,q⟩:=g;exact fin J m q
 |next=>
  obtain⟨a,H',J,q⟩:=g;exact fin (v:=V.non) J rfl q
 |brk=>
  obtain⟨_,_,_,q⟩:=g;exact False.elim q
 |cont=>
  obtain⟨_,_,_,q⟩:=g;exact False.elim q
section
variable {X:Cx}{x:Str}{p pos:Pos}{e:Ak}{es:List Ak}{t:TA}{id T:String}{r:List V->Hp->VK->Prop}
def tCB (r:List V->Hp->VK->Prop)(t:TA):TE:=λB H Q=>t B H λvs H1=>r vs H1 Q
def yA (d:yt X (.builtin id) r)(hg:Gl X x)(hm:X.mg x=none)(g:bootBuiltins x=some (.builtin id))(ha:PA X (e::es) t)(hn:x≠"__name__":=by decide)(b:(x == ("__debug__":Str))=false:=by decide)
  (he:Af (e::es) X.env=(false,eval e X.env)::Af es X.env:=by rfl) (hpl:(backTo pos (Af es X.env)).any (·.1)=false:=by rfl):PE X (.Call (.Name x p) (e::es) [] pos) (tCB r t):=by
 intro pins s B H Q I h;refine yc5 (yR I hg hm g ?_ hn b);exact PyProof.Rows.callWith_builtin1 (thn (ha pos pins s B H _ I h) λus s1 a=>by obtain⟨vs,H1,f,i,c⟩:=a;exact d pins s1 B H1 vs us Q f i c) he hpl
def yw (d:yt X (.type T) r)(hg:Gl X x)(hm:X.mg x=none)(g:bootBuiltins x=some (.type T))(ha:PA X (e::es) t)(hn:x≠"__name__":=by decide)(b:(x == ("__debug__":Str))=false:=by decide)
  (he:Af (e::es) X.env=(false,eval e X.env)::Af es X.env:=by rfl) (hpl:(backTo pos (Af es X.env)).any (·.1)=false:=by rfl):PE X (.Call (.Name x p) (e::es) [] pos) (tCB r t):=by
 intro pins s B H Q I h;refine yc5 (yR I hg hm g ?_ hn b);exact z45 (thn (ha pos pins s B H _ I h) λus s1 a=>by obtain⟨vs,H1,f,i,c⟩:=a;exact d pins s1 B H1 vs us Q f i c) he hpl
end
end L2
namespace HT
open PySem PyProof.Rows
section
open PySem.SeqAt
open PySem.AutoSeq1 (wpAny_loadPart')
open PySem.MeetsSeq PySem.MeetsSeq2 PySem.MeetsSeq3
end
section
variable {prog:Ag}{w:Ai}{A:Am}{E:Ab->Ad->Prop}{s:Ad}
def zn3 {t b:Ae}{vs ws:List Ab}{Q:Ab->Ad->Prop}(o:IsTup s.heap t vs.toArray)(hb:IsTup s.heap b ws.toArray)(l:vs≠[])
  (h1:ws=[]->Q (.ref t) s) (h2:ws≠[]->Q (.ref s.heap.objs.size) {s with heap:=s.heap.push {cls:=.type "tuple",data:=.seq (vs++ws).toArray}})
  (h:vs.length+ws.length<=sizeLine):Aj (Al prog w) A (binaryOp .Add (.ref t) (.ref b)) Q E s:=by
 obtain⟨⟨cls,i,data,sl⟩,g,k,n,hd⟩:=id o;obtain⟨⟨m,d,data2,c⟩,a,f,j,hd2⟩:=id hb;simp only at k hd f hd2;subst k hd f hd2;have e:vs.toArray++ws.toArray=(vs++ws).toArray:=by simp
 by_cases hw:ws=[]
 .exact concat_meets ⟨_,g,rfl⟩ ⟨_,a,rfl⟩ noFill_tuple_add seq_tuple_add PySem.F.slot_tuple_add PySem.F.entry_tuple_add (PySem.F.args_tuple_add_2 _ _)
   (tuple_addW1 t b vs.toArray ws.toArray n j i d sl c (by simpa using l) (by simp[hw])) ⟨g,a,h1 hw⟩
 .refine concat_meets ⟨_,g,rfl⟩ ⟨_,a,rfl⟩ noFill_tuple_add seq_tuple_add PySem.F.slot_tuple_add PySem.F.entry_tuple_add (PySem.F.args_tuple_add_2 _ _)
   (tuple_addW2 t b vs.toArray ws.toArray n j i d sl c (by simpa using l) (by simpa using hw) (by rw[z09,z09];exact h)) ⟨g,a,?_⟩
  rw[e];exact h2 hw
noncomputable def sIx (n d:Nat):Option Int->Nat
 |none=>d
 |some v=>if v<0 then(v+(n:Int)).toNat else min v.toNat n
def sI (n d:Nat):sIx n d none=d:=rfl
def tX (n d k:Nat):sIx n d (some (k:Int))=min k n:=by
 show(if(k:Int)<0 then((k:Int)+n).toNat else min (k:Int).toNat n)=min k n;rw[if_neg (Int.not_lt.2 (yf7 _)),z67]
theorem zI5 (n d:Nat)(hd:d<=n)(o:Option Int):sIx n d o<=n:=by
 cases o with
 |none=>exact hd
 |some v=>
  show(if v<0 then(v+(n:Int)).toNat else min v.toNat n)<=n;by_cases a:v<0
  .rw[if_pos a];lia
  .rw[if_neg a];exact yh3 _ _
def jS (v:Int)(n d:Nat):(if v<0 then max (v+(n:Int)) 0 else min v (n:Int))=((sIx n d (some v):Nat):Int):=by
 show(if v<0 then max (v+(n:Int)) 0 else min v (n:Int))=(((if v<0 then(v+(n:Int)).toNat else min v.toNat n):Nat):Int);by_cases a:v<0
 .simp only[if_pos a];lia
 .simp only[if_neg a];lia
def jc (lo hi:Option Int)(n:Nat):Builtin.Slice.sliceAdjust lo hi 1 (n:Int)=(((sIx n 0 lo:Nat):Int),((sIx n n hi:Nat):Int)):=by
 have h1:¬((1:Int)<0):=by decide
 unfold Builtin.Slice.sliceAdjust;simp only[h1,z87];refine Prod.ext ?_ ?_
 .cases lo with
  |none=>rfl
  |some v=>exact jS v n 0
 .cases hi with
  |none=>rfl
  |some v=>exact jS v n n
def lW (i j:Nat):Builtin.Slice.slicePlaces (i:Int) (j:Int) 1=j-i:=by
 unfold Builtin.Slice.slicePlaces;have h1:(1:Int) > 0:=by decide
 simp only[h1,yc1,Int.ediv_one];split<;>lia
theorem sC {v:Ab}{o:Option Int}{Q:Option Int->Ad->Prop}(p:IsPart v o)(h:Q o s):Aj (Al prog w) A (Builtin.Slice.slicePartIndex v) Q E s:=by
 cases p with
 |none=>exact slicePart_none h
 |int i t=>exact slicePart_int h
def uF {sl:Ae}{c d:Ab}{lo hi:Option Int}{n:Nat}{Q:Int×Int×Nat->Ad->Prop}(e:s.heap.IsSliceOf sl c d .none)(pl:IsPart c lo)(pu:IsPart d hi)
  (h:Q (((sIx n 0 lo:Nat):Int),1,sIx n n hi-sIx n 0 lo) s):Aj (Al prog w) A (Builtin.Slice.sliceApplied (.ref sl) (pure (n:Int))) Q E s:=by
 obtain⟨os,b,f,a⟩:=id e;unfold Builtin.Slice.sliceApplied Builtin.Slice.sliceFields;refine zZ3 (zZ3 (z89 b a (x:=c) rfl (zZ3 (z89 b a (x:=d) rfl (zZ3 (z89 b a (x:=.none) rfl (z02 ?_)))))));refine zZ3 (slicePart_none ?_);show Aj _ _ (if((1:Int)==0)=true then _ else _) _ _ s;rw[if_neg (by decide)];refine zZ3 (sC pl (zZ3 (sC pu (zZ3 (z02 ?_)))));show Aj _ _ (match Builtin.Slice.sliceAdjust lo hi 1 (n:Int)with|(lo,hi)=>pure (lo,(1:Int),Builtin.Slice.slicePlaces lo hi 1)) _ _ s;rw[jc lo hi n];show Aj _ _ (pure (((sIx n 0 lo:Nat):Int),(1:Int),Builtin.Slice.slicePlaces ((sIx n 0 lo:Nat):Int) ((sIx n n hi:Nat):Int) 1)) _ _ s;rw[lW];exact z02 h
def bp (xs:Array Ab)(i k:Nat):((List.range k).filterMap λ(m:Nat)=>xs[((i:Int)+(m:Int)*1).toNat]?).toArray=((xs.toList.drop i).take k).toArray:=by
 have e:(λ(m:Nat)=>xs[((i:Int)+(m:Int)*1).toNat]?)=λm=>xs[i+m]?:=by
  funext m
  have:((i:Int)+(m:Int)*1).toNat=i+m:=by lia
  rw[this]
 rw[e];have:=pick_run xs i k;rw[yj9]at this;have a:((λx=>xs[x]?)∘λx=>i+x)=λm=>xs[i+m]?:=rfl;rw[a]at this;rw[this]
def ud {t sl:Ae}{items:Array Ab}{i j:Ab}{lo hi:Option Int}{Q:Ab->Ad->Prop}(b:IsTup s.heap t items)(g:s.heap.IsSliceOf sl i j .none)(pl:IsPart i lo)(pu:IsPart j hi)
  (hw:¬(sIx items.size 0 lo=0/\sIx items.size items.size hi=items.size))
  (h:Q (.ref s.heap.objs.size) {s with heap:=s.heap.push {cls:=.type "tuple",data:=.seq ((items.toList.drop (sIx items.size 0 lo)).take (sIx items.size items.size hi-sIx items.size 0 lo)).toArray}})
  (c:items.size<=sizeLine):Aj (Al prog w) A (getItem (.ref t) (.ref sl)) Q E s:=by
 have a:sizeOk (.seq ((items.toList.drop (sIx items.size 0 lo)).take (sIx items.size items.size hi-sIx items.size 0 lo)).toArray):=by
  show((items.toList.drop (sIx items.size 0 lo)).take (sIx items.size items.size hi-sIx items.size 0 lo)).toArray.size<=sizeLine;rw[z09,z49,z88,ye6];exact z05 (yh3 _ _) (z05 (Nat.sub_le _ _) c)
 have o:sIx items.size items.size hi<=items.size:=zI5 _ _ (zZ8 _) hi;obtain⟨os,e,f,k⟩:=id g;have d:s.TypeIs (.ref sl) "slice":=⟨os,e,f⟩;unfold getItem
 try with_reducible refine z72 ?_
 first|refine zZ3 (z02 ?_)|skip
 refine zZ3 (wpAny_sequenceKey b.typeIs (by decide) ?_);refine zZ3 (yc4 (name:=Str.ofString "__getitem__") b.typeIs yc3
  (yd9 yc3 b.typeIs entry_tuple_getitem ?_ (args_tuple_getitem _ _)))
 show Aj _ _ (Builtin.Tuple.tupleItemsOf (.ref t) >>= _) _ _ s;refine zZ3 (tupleItemsOf_ b ?_);refine zZ3 (wpAny_typeOf d ?_);rw[if_pos (by decide)];refine zZ3 (uF g pl pu ?_);have hno:¬((((sIx items.size 0 lo:Nat):Int)==0&&(1:Int)==1&&(sIx items.size items.size hi-sIx items.size 0 lo)==items.size)=true):=by
  intro q;rw[z36,z36]at q;have l:((sIx items.size 0 lo:Nat):Int)=0:=eq_of_beq q.1.1;have n:sIx items.size items.size hi-sIx items.size 0 lo=items.size:=eq_of_beq q.2;exact hw ⟨by lia,by lia⟩
 show Aj _ _ (if(((sIx items.size 0 lo:Nat):Int)==0&&(1:Int)==1&&(sIx items.size items.size hi-sIx items.size 0 lo)==items.size)=true then _ else _) _ _ s;rw[if_neg hno,bp]
 first
  |exact zZ3 (m:=Builtin.Tuple.tupleExact _) (yb8 (z02 ⟨_,rfl,z02 h⟩) a)
  |exact zZ3 (m:=Builtin.Tuple.tupleExact _) (yb8 (zZ3 (z02 (z02 ⟨_,rfl,z02 h⟩))) a)
  |exact zZ3 (zZ3 (m:=Builtin.Tuple.tupleExact _) (yb8 (z02 (z02 ⟨_,rfl,z02 h⟩)) a))
  |exact zZ3 (zZ3 (m:=Builtin.Tuple.tupleExact _) (yb8 (z02 ⟨_,rfl,z02 h⟩) a))
end
end HT
namespace L2
open PySem PySem.Spec PyProof.Rows
abbrev TO :=St->Hp->(Option Int->Hp->Prop)->Prop
def PO (X:Cx)(e:Option Ak)(t:TO):Prop:=
 ∀(pins:List (Ae×Obj)) (s:Ad) (B:St) (H:Hp) (Q:Option Int->Hp->Prop),Inv X pins B H s->t B H Q->
  Aj (Al X.prog X.w) X.A (evalPart e X.env) (λu s'=>∃o H',Inv X pins B H' s'/\IsPart u o/\Q o H') X.xe s
def zm8 :TO:=λ_ H Q=>Q none H
def zP4 (t:TE):TO:=λB H Q=>t B H λx H1=>∃i,x=.int i/\Q (some i) H1
theorem intsAre_of {ns:List Int}:∀{us:List Ab},Vals (ns.map V.int) us->IntsAre us ns:=by
 induction ns with
 |nil=>intro us r;rw[yd2]at r;cases r;exact .nil
 |cons n ns c=>
  intro us r;rw[z27]at r;cases r with
  |cons b a=>
   obtain⟨t,e⟩:=b;subst e;exact .cons n t (c a)
section
variable {X:Cx}{e:Ak}{te:TE}{lo hi:Option Ak}{tl th:TO}{pos p2:Pos}
def pN :PO X none zm8:=by
 intro pins s B H Q I h;rw[evalPart_none];exact z02 ⟨none,H,I,.none,h⟩
def sf (h:PE X e te):PO X (some e) (zP4 te):=by
 intro pins s B H Q I hw;rw[evalPart_some];refine thn (h pins s B H _ I hw) λu s1 a=>?_;obtain⟨x,H1,c,d,b⟩:=a;obtain⟨i,rfl,q⟩:=b;obtain⟨t,rfl⟩:=d;exact⟨some i,H1,c,.int i t,q⟩
def SlR (X:Cx)(r:V->Option Int->Option Int->Hp->VK->Prop):Prop:=
 ∀(pins:List (Ae×Obj)) (s:Ad) (B:St) (H:Hp) (x:V) (v a b:Ab) (lo hi:Option Int) (sl:Ae) (Q:VK),Inv X pins B H s->RelV x v->s.heap.IsSliceOf sl a b .none->IsPart a lo->IsPart b hi->r x lo hi H Q->
  ∃T id,typeLookup (.type T) "__getitem__"=pure (some (.builtin id))/\s.TypeIs v T/\Aj (Al X.prog X.w) X.A (getItem v (.ref sl)) (EP X pins B Q) X.xe s
def tSl (r:V->Option Int->Option Int->Hp->VK->Prop)(te:TE)(tl th:TO):TE:=λB H Q=>te B H λx H1=>tl B H1 λl b=>th B b λu a=>r x l u a Q
def uB {r:V->Option Int->Option Int->Hp->VK->Prop}(hr:SlR X r)(he:PE X e te)(k:PO X lo tl)(n:PO X hi th):PE X (.Subscript e (.Slice lo hi none p2) pos) (tSl r te tl th):=by
 intro pins s B H Q I h;refine Subscript_ (thn (he pins s B H _ I h) λv s1 ⟨x,H1,y,j,f⟩=>wpAny_Slice (thn (k pins s1 B H1 _ y f) λc s2 ⟨l,z,p,pl,i⟩=>thn (n pins s2 B z _ p i) λa s3 ⟨u,d,g,pu,m⟩=>?_));rw[evalPart_none];refine z02 ?_;have t:Inv X pins B d {s3 with heap:=s3.heap.push {cls:=.type "slice",data:=.fields #[c,a,.none]}}:=g.kept λb ob q=>zZ4 _ q;obtain⟨T,id,w,o,hg⟩:=hr pins {s3 with heap:=s3.heap.push {cls:=.type "slice",data:=.fields #[c,a,.none]}} B d x v c a l u s3.heap.objs.size Q t j (Heap.IsSliceOf.new ..) pl pu m;exact tail_any o w hg (by with_unfolding_all rfl)
noncomputable def qt (xs:List V)(lo hi:Option Int):List V:=(xs.drop (HT.sIx xs.length 0 lo)).take (HT.sIx xs.length xs.length hi-HT.sIx xs.length 0 lo)
def uZ (xs:List V)(lo hi:Option Int):(qt xs lo hi).length<=xs.length:=by
 unfold qt;rw[z49,z88];exact z05 (yh3 _ _) (Nat.sub_le _ _)
def zY8 (K:Ac):V->Option Int->Option Int->Hp->VK->Prop:=λx lo hi H Q=>∃a xs,x=.ref a/\SqT K H a xs/\
 ¬(HT.sIx xs.length 0 lo=0/\HT.sIx xs.length xs.length hi=xs.length)/\∀p,H p=none->Q (.ref p) (upd H p (.tup (qt xs lo hi)))
def zD4 :SlR X (zY8 X.K):=by
 intro pins s B H x v k l lo hi sl Q I j g pl pu h;obtain⟨a,xs,rfl,i,hw,q⟩:=h;cases j;obtain⟨c,r,d,f⟩:=I.tuple i;have hlen:c.toArray.size=xs.length:=by rw[z09];exact r.length.symm
 refine⟨"tuple",_,yc3.lookup,d.typeIs,?_⟩;refine HT.ud d g pl pu (by rw[hlen];exact hw) ?_ (by rw[hlen];exact f);rw[hlen];refine⟨.ref s.heap.objs.size,_,I.laid (t':=s.toks) (o:=.tup (qt xs lo hi)) (λb ob q=>zZ4 _ q) (zZ8 _) ?_,rfl,q _ (I.hok.fresh (zZ8 _))⟩;exact⟨z05 (uZ xs lo hi) f,_,(r.drop (HT.sIx xs.length 0 lo)).take (HT.sIx xs.length xs.length hi-HT.sIx xs.length 0 lo),IsTup.new _ _⟩
def zO1 (K:Ac):R2:=λx y H Q=>∃a b xs ys,x=.ref a/\y=.ref b/\SqT K H a xs/\SqT K H b ys/\xs≠[]/\xs.length+ys.length<=sizeLine/\
 (ys=[]->Q (.ref a) H)/\(ys≠[]->∀p,H p=none->Q (.ref p) (upd H p (.tup (xs++ys))))
theorem Vals.nil_iff {xs:List V}{us:List Ab}(r:Vals xs us):us=[]↔xs=[]:=by
 cases r with
 |nil=>simp
 |cons _ _=>simp
def zr5 :OpR X (binaryOp .Add) (zO1 X.K):=by
 intro pins s B H x y v u Q I k n h;obtain⟨a,b,xs,ys,rfl,rfl,ha,hb,j,f,i,l⟩:=h;cases k;cases n;obtain⟨m,d,p1,_⟩:=I.tuple ha;obtain⟨g,c,p2,_⟩:=I.tuple hb;refine HT.zn3 p1 p2 (λz=>j (d.nil_iff.mp z)) (λz=>⟨.ref a,H,I,rfl,i (c.nil_iff.mp z)⟩) (λz=>?_) (by rw[<-d.length,<-c.length];exact f);refine⟨.ref s.heap.objs.size,_,I.laid (t':=s.toks) (o:=.tup (xs++ys)) (λb ob q=>zZ4 _ q) (zZ8 _) ?_,rfl,l (λw=>z (c.nil_iff.mpr w)) _ (I.hok.fresh (zZ8 _))⟩;exact⟨by rw[z24];exact f,_,d.append c,IsTup.new _ _⟩
end
noncomputable def ixN (n:Nat)(i:Int):Option Nat:=if 0<=i then(if i<n then some i.toNat else none)else if -(n:Int)<=i then some (i+n).toNat else none
noncomputable def atI {L:Type}(xs:List L)(i:Int):Option L:=(ixN xs.length i).bind λj=>xs[j]?
def oG {n:Nat}{i:Int}{j:Nat}(h:ixN n i=some j):seqIndex? i n=some j/\j<n/\-(n:Int)<=i/\i<n:=by
 unfold ixN at h;by_cases h0:0<=i
 .rw[if_pos h0]at h;by_cases h1:i<n
  .rw[if_pos h1]at h;exact⟨by rw[seqIndex_of h0 h1,(z34 h)],by lia,by lia,h1⟩
  .rw[if_neg h1]at h;cases h
 .rw[if_neg h0]at h;by_cases h1:-(n:Int)<=i
  .rw[if_pos h1]at h;exact⟨by rw[seqIndex_neg (yi7.1 h0) h1,(z34 h)],by lia,h1,(yb2 (yi7.1 h0) (yf7 _))⟩
  .rw[if_neg h1]at h;cases h
theorem oo {L:Type}{xs:List L}{i:Int}{v:L}(h:atI xs i=some v):∃j,seqIndex? i xs.length=some j/\xs[j]?=some v/\j<xs.length/\-(xs.length:Int)<=i/\i<xs.length:=by
 unfold atI at h;cases e:ixN xs.length i with
 |none=>rw[e]at h;cases h
 |some j=>
  rw[e]at h;obtain⟨h1,h2,h3,a⟩:=oG e;exact⟨j,h1,h,h2,h3,a⟩
def yn {L:Type}{xs:List L}{j:Nat}{v:L}(h:xs[j]?=some v):atI xs (j:Int)=some v:=by
 have e:ixN xs.length j=some j:=by
  unfold ixN;rw[if_pos (yf7 _),if_pos (Int.ofNat_lt.2 ((zZ6.mp h).1))];simp
 unfold atI;rw[e];exact h
def dY {L:Type}(xs:List L)(v:L):atI (xs++[v]) (-1)=some v:=by
 have a:(xs++[v]).length=xs.length+1:=by simp
 have e:ixN (xs++[v]).length (-1)=some xs.length:=by
  unfold ixN;rw[a,if_neg (by decide),if_pos (by lia)]
  congr 1
  lia
 unfold atI;rw[e];simp
def pP (b:Ak):Prop:=∀o i,subscripted b false o i=operate [o,i] (getItem o i)
def IxR (X:Cx)(r:R2):Prop:=
 ∀(value slice:Ak) (pins:List (Ae×Obj)) (s:Ad) (B:St) (H:Hp) (x y:V) (v u:Ab) (Q:VK),Inv X pins B H s->RelV x v->RelV y u->r x y H Q->
  subscripted slice false v u=operate [v,u] (getItem v u)->Aj (Al X.prog X.w) X.A (subscriptTail value slice v u) (EP X pins B Q) X.xe s
def MtR (X:Cx)(id:String)(r:V->List V->Hp->VK->Prop):Prop:=
 ∀(pins:List (Ae×Obj)) (s:Ad) (B:St) (H:Hp) (x:V) (xs:List V) (v:Ab) (us:List Ab) (Q:VK),Inv X pins B H s->RelV x v->Vals xs us->r x xs H Q->
  Aj (Al X.prog X.w) X.A (call (.builtin id) (v::us)) (EP X pins B Q) X.xe s
section
variable {X:Cx}{a b:Ak}{ta tb:TE}{pos:Pos}
def IxR.or {r d:R2}(h:IxR X r)(h':IxR X d):IxR X (λx y H Q=>r x y H Q\/d x y H Q):=by
 intro value slice pins s B H x y v u Q I f e q c;rcases q with q|q
 .exact h value slice pins s B H x y v u Q I f e q c
 .exact h' value slice pins s B H x y v u Q I f e q c
def yB {r:R2}(hr:IxR X r)(ha:PE X a ta)(hb:PE X b tb)(c:pP b):PE X (.Subscript a b pos) (tOp r ta tb):=by
 intro pins s B H Q I h;exact Subscript_ (zE0 ha hb I h λv u s2 x y g d f e q=>hr a b pins s2 B g x y v u Q d f e q (c _ _))
def zJ1 (K:Ac):R2:=λx y H Q=>∃p xs i v,x=.ref p/\y=.int i/\SqL K H p xs/\atI xs i=some v/\Q v H
def zS3 (K:Ac):R2:=λx y H Q=>∃p xs i v,x=.ref p/\y=.int i/\SqT K H p xs/\atI xs i=some v/\Q v H
def zP2 :R2:=λx y H Q=>∃z i c,x=.str z/\y=.int i/\z.length<=sizeLine/\atI z.cps.toList i=some c/\Q (.str ⟨#[c]⟩) H
def zU :IxR X (zJ1 X.K):=by
 intro value slice pins s B H x y v u Q I n A h k;obtain⟨p,xs,i,z,rfl,rfl,hq,he,q⟩:=h;cases n;obtain⟨t,rfl⟩:=A;obtain⟨d,r,pl,l⟩:=I.list hq;obtain⟨j,h1,h2,h3,m,g⟩:=oo he;obtain⟨w,f,c⟩:=r.get h2;have o:=r.length;have hn:=sR;have fin:EP X pins B Q w s:=⟨z,H,I,c,q⟩;by_cases h0:0<=i
 .have e:i.toNat=j:=by
   rw[seqIndex_of h0 g]at h1;exact z34 h1
  exact item_listR pl.isList h0 (dD hn g l) (by rw[e];simpa using f) fin k
 .have e:(i+(d.toArray.size:Int)).toNat=j:=by
   rw[seqIndex_neg (yi7.1 h0) m]at h1;rw[z09,<-o];exact z34 h1
  exact subscriptTail_builtinR pl.isList.typeIs slot_list_getitem.lookup
   (wpAny_getItem_list_neg pl.isList (yi7.1 h0) (by rw[z09]<;>lia) (ze9 m l hn) (by rw[e];simpa using f) ⟨rfl,fin⟩) k
def zc9 :IxR X (zS3 X.K):=by
 intro value slice pins s B H x y v u Q I k m h l;obtain⟨p,xs,i,z,rfl,rfl,hq,he,q⟩:=h;cases k;obtain⟨t,rfl⟩:=m;obtain⟨g,r,pl,d⟩:=I.tuple hq;obtain⟨j,h1,h2,h3,n,f⟩:=oo he;obtain⟨w,e,c⟩:=r.get h2;have hn:=sR;have fin:EP X pins B Q w s:=⟨z,H,I,c,q⟩;exact subscriptTail_builtinR pl.typeIs slot_tuple_getitem.lookup
  (getItem_tuple pl (ze9 n d hn) (dD hn f d) (by rw[z09,<-r.length];exact h1) (by simpa using e) ⟨rfl,fin⟩) l
def zE2 :IxR X zP2:=by
 intro value slice pins s B H x y v u Q I l k h e;obtain⟨z,i,c,rfl,rfl,n,he,q⟩:=h;obtain⟨t,rfl⟩:=l;obtain⟨t',rfl⟩:=k;obtain⟨j,h1,h2,h3,m,f⟩:=oo he;have d:z.cps.toList.length=z.length:=by simp[Str.length]
 rw[d]at h1 m f;have hn:=sR;exact tail_any (typeIs_str s z t) slot_str_getitem.lookup (getItem_str (by
  have e1:decide (i < -(2 ^ 63:Int))=false:=z38 (by lia);have g:decide (i≥2 ^ 63)=false:=z38 (by lia);rw[e1,g,ye3]) (by rw[h1];simpa using h2) ⟨.str ⟨#[c]⟩,H,I.tok _,⟨_,rfl⟩,q⟩) e
def rIx (K:Ac):R2:=λx y H Q=>zJ1 K x y H Q\/zS3 K x y H Q\/zP2 x y H Q
def zF5 :IxR X (rIx X.K):=zU.or (zc9.or zE2)
def ky (c:List Ab)(n j:Nat)(u:Ab):Obj.mapSeq (·.setIfInBounds j u) {cls:=.type "list",data:=.seq c.toArray n}={cls:=.type "list",data:=.seq (c.set j u).toArray n}:=by simp[Obj.mapSeq]
theorem Inv.lst {pins:List (Ae×Obj)}{B:St}{H:Hp}{s:Ad}{p:Ae}{xs:List V}(I:Inv X pins B H s)(h:H p=some (.lst xs)):
  ∃(c:List Ab) (n:Nat),Vals xs c/\s.heap.get? p=some {cls:=.type "list",data:=.seq c.toArray n}/\xs.length<=sizeLine:=by
 obtain⟨z,c,n,r,e⟩:=I.hok p _ h;exact⟨c,n,r,e,z⟩
def Inv.lstUpd {pins:List (Ae×Obj)}{B:St}{H:Hp}{s:Ad}{p:Ae}{xs ys:List V}{d c:List Ab}{n g:Nat}{f:Obj->Obj}(I:Inv X pins B H s)(h:H p=some (.lst xs))
  (i:s.heap.get? p=some {cls:=.type "list",data:=.seq d.toArray n}) (hf:f {cls:=.type "list",data:=.seq d.toArray n}={cls:=.type "list",data:=.seq c.toArray g}) (r:Vals ys c) (j:ys.length<=sizeLine) (t:Nat):
  Inv X pins B (upd H p (.lst ys)) {s with heap:=s.heap.update p f,toks:=t}:=by
 have e:(s.heap.update p f).get? p=some {cls:=.type "list",data:=.seq c.toArray g}:=by rw[yd3 f i (by rw[hf]<;>rfl),hf]
 refine I.write (by rw[h];trivial) (.inl rfl) (λb u hb q=>(z35 _ _ (z42 hb)).trans q) ⟨_,e⟩ ?_;exact⟨j,c,g,r,e⟩
def zz3 :V->V->V->Hp->(Hp->Prop)->Prop:=λo i v H Q=>∃p xs k j,o=.ref p/\i=.int k/\H p=some (.lst xs)/\ixN xs.length k=some j/\Q (upd H p (.lst (xs.set j v)))
def set_list :zM4 X zz3:=by
 intro pins s B H o i v C A u Q I w x y h;obtain⟨p,xs,k,j,rfl,rfl,m,z,q⟩:=h;cases w;obtain⟨t,rfl⟩:=x;obtain⟨c,n,r,f,e⟩:=I.lst m;obtain⟨h1,h2,h3,g⟩:=oG z;have d:=r.length;have hn:=sR;have l:Inv X pins B (upd H p (.lst (xs.set j v))) {s with heap:=s.heap.update p (Obj.mapSeq (·.setIfInBounds j u))}:=
  I.lstUpd m f (ky c n j u) (r.set y j) (by rw[z62];exact e) s.toks
 by_cases h0:0<=k
 .have hk:k.toNat=j:=by
   rw[seqIndex_of h0 g]at h1;exact z34 h1
  exact PySem.W.ki_setAt f h0 (dD hn g e) (by rw[z09,<-d];exact g) (by rw[hk];exact⟨_,l,q⟩)
 .have hk:(k+(c.toArray.size:Int)).toNat=j:=by
   rw[seqIndex_neg (yi7.1 h0) h3]at h1;rw[z09,<-d];exact z34 h1
  exact PySem.W.ki_setBack f (yi7.1 h0) (by rw[z09,<-d];exact h3) (ze9 h3 e hn) (by rw[hk];exact⟨_,l,q⟩)
def ox (lo hi:Option Int)(n:Nat):(sliceBounds lo hi none n).1=((HT.sIx n 0 lo:Nat):Int)/\(sliceBounds lo hi none n).2.1=((HT.sIx n n hi:Nat):Int)/\(sliceBounds lo hi none n).2.2=1:=by
 refine⟨?_,?_,rfl⟩
 .cases lo with
  |none=>simp[sliceBounds,HT.sIx]
  |some i=>
   simp only[sliceBounds,HT.sIx,Option.getD_none,show 1 > 0 by decide,yc1];by_cases h:i<0
   .simp only[h,yc1]<;>exact zy1 h
   .simp only[h,z87]<;>exact zA0
 .cases hi with
  |none=>simp[sliceBounds,HT.sIx]
  |some i=>
   simp only[sliceBounds,HT.sIx,Option.getD_none,show 1 > 0 by decide,yc1];by_cases h:i<0
   .simp only[h,yc1]<;>exact zy1 h
   .simp only[h,z87]<;>exact zA0
def qp (c:List Ab)(lo hi:Option Int):slicePick c.toArray lo hi none=((c.drop (HT.sIx c.length 0 lo)).take (HT.sIx c.length c.length hi-HT.sIx c.length 0 lo)).toArray:=by
 obtain⟨h1,h2,h3⟩:=ox lo hi c.toArray.size;unfold slicePick;rw[h1,h2,h3];simp only[sliceRange_one,pick_run,z09]<;>rfl
def zX2 (K:Ac):V->Option Int->Option Int->Hp->VK->Prop:=λx lo hi H Q=>∃a xs,x=.ref a/\SqL K H a xs/\∀p,H p=none->Q (.ref p) (upd H p (.lst (qt xs lo hi)))
def pE :SlR X (zX2 X.K):=by
 intro pins s B H x v j k lo hi sl Q I i e pl pu h;obtain⟨a,xs,rfl,f,q⟩:=h;cases i;obtain⟨g,r,c,d⟩:=I.list f;have hlen:=r.length;refine⟨"list",_,slot_list_getitem.lookup,c.isList.typeIs,?_⟩;refine wpAny_getItem_list_slice c.isList e pl pu .none (by simp) ?_ (by rw[z09]<;>exact z05 (z26 hlen.symm) d);rw[qp,<-hlen];refine⟨.ref s.heap.objs.size,_,I.laid (λb ob q=>zZ4 _ q) (zZ8 _) ?_,rfl,q _ (I.hok.fresh (zZ8 _))⟩;exact⟨z05 (uZ xs lo hi) d,_,0,(r.drop (HT.sIx xs.length 0 lo)).take (HT.sIx xs.length xs.length hi-HT.sIx xs.length 0 lo),z08 _ rfl⟩
noncomputable def vD :V->Bool
 |.non=>true
 |.bl _=>true
 |.int _=>true
 |.str _=>true
 |_=>false
noncomputable def eqV :V->V->Bool
 |.non,.non=>true
 |.bl a,.bl b=>a == b
 |.bl a,.int b=>(if a then 1 else 0)==b
 |.int a,.bl b=>a == (if b then 1 else 0)
 |.int a,.int b=>a == b
 |.str a,.str b=>a == b
 |_,_=>false
theorem zB1 {A:Am}{s:Ad}{y x:V}{u v:Ab}(e:RelV y u)(c:RelV x v)(f:vD y=true)(d:vD x=true):SeqAt.EqAt A s u v (eqV y x):=by
 cases y with
 |non=>
  cases e;cases x with
  |non=>cases c;exact SeqAt.EqAt.same _
  |bl b=>cases c;exact SeqAt.EqAt.none_bool b
  |int b=>obtain⟨t,rfl⟩:=c;exact SeqAt.EqAt.none_int b t
  |str b=>obtain⟨t,rfl⟩:=c;exact SeqAt.EqAt.none_str b t
  |_=>exact absurd (d) z32
 |bl a=>
  cases e;cases x with
  |non=>cases c;exact SeqAt.EqAt.bool_none a
  |bl b=>cases c;exact SeqAt.EqAt.bool_bool a b
  |int b=>obtain⟨t,rfl⟩:=c;exact SeqAt.EqAt.bool_int a b t
  |str b=>obtain⟨t,rfl⟩:=c;exact SeqAt.EqAt.bool_str a b t
  |_=>exact absurd (d) z32
 |int a=>
  obtain⟨t',rfl⟩:=e;cases x with
  |non=>cases c;exact SeqAt.EqAt.int_none a t'
  |bl b=>cases c;exact SeqAt.EqAt.int_bool a t' b
  |int b=>obtain⟨t,rfl⟩:=c;exact SeqAt.EqAt.int_int a t' b t
  |str b=>obtain⟨t,rfl⟩:=c;exact SeqAt.EqAt.int_str a t' b t
  |_=>exact absurd (d) z32
 |str a=>
  obtain⟨t',rfl⟩:=e;cases x with
  |non=>cases c;exact SeqAt.EqAt.str_none a t'
  |bl b=>cases c;exact SeqAt.EqAt.str_bool a t' b
  |int b=>obtain⟨t,rfl⟩:=c;exact SeqAt.EqAt.str_int a t' b t
  |str b=>obtain⟨t,rfl⟩:=c;exact SeqAt.EqAt.str_str a t' b t
  |_=>exact absurd (d) z32
 |_=>exact absurd (f) z32
noncomputable def eqU (x:V)(u:Ab):Bool:=match u with
 |.none=>eqV .non x
 |.bool b=>eqV (.bl b) x
 |.int i _=>eqV (.int i) x
 |.str z _=>eqV (.str z) x
 |_=>false
theorem ze3 {x y:V}{u:Ab}(r:RelV y u)(f:vD y=true):eqU x u=eqV y x:=by
 cases y with
 |non=>cases r;rfl
 |bl b=>cases r;rfl
 |int i=>obtain⟨t,rfl⟩:=r;rfl
 |str z=>obtain⟨t,rfl⟩:=r;rfl
 |_=>exact absurd (f) z32
theorem sq {x:V}{xs:List V}{us:List Ab}(h:Vals xs us)(f:xs.all vD=true):us.any (eqU x)=xs.any λy=>eqV y x:=by
 induction h with
 |nil=>rfl
 |cons r _ c=>
  rw[ye4,z36]at f;rw[z97,z97,ze3 r f.1,c f.2]
theorem wW {A:Am}{s:Ad}{x:V}{v:Ab}(e:RelV x v)(d:vD x=true):∀{xs:List V}{us:List Ab},Vals xs us->xs.all vD=true->∀u∈us,SeqAt.EqAt A s u v (eqU x u)
 |_,_,.nil,_=>λu c=>by cases c
 |y::xs,u::us,.cons r t,f=>λg c=>by
  rw[ye4,z36]at f;rcases zZ9.mp c with rfl|c
  .rw[ze3 r f.1];exact zB1 r e f.1 d
  .exact wW e d t f.2 g c
noncomputable def inV (x:V)(xs:List V):Bool:=xs.any λy=>eqV y x
def rIn (K:Ac)(neg:Bool):R2:=λx y H Q=>∃p xs,y=.ref p/\(SqL K H p xs\/SqT K H p xs)/\vD x=true/\xs.all vD=true/\Q (.bl (if neg then !inV x xs else inV x xs)) H
def fQ :OpR X (compareOp .In) (rIn X.K false):=by
 intro pins s B H x y v u Q I e g h;obtain⟨p,xs,rfl,hq,d,fs,q⟩:=h;cases g;rcases hq with hq|hq
 .obtain⟨c,r,pl,f⟩:=I.list hq;refine SeqAt.in_listAt (eqU x) pl.isList (λw hw=>wW e d r fs w (by simpa using hw)) ⟨.bl _,H,I,rfl,?_⟩;rw[show c.toArray.any (eqU x)=c.any (eqU x) by simp,sq r fs];exact q
 .obtain⟨c,r,pl,f⟩:=I.tuple hq;refine SeqAt.in_tupleAt (eqU x) pl (λw hw=>wW e d r fs w (by simpa using hw)) ⟨.bl _,H,I,rfl,?_⟩;rw[show c.toArray.any (eqU x)=c.any (eqU x) by simp,sq r fs];exact q
def oT :OpR X (compareOp .NotIn) (rIn X.K true):=by
 intro pins s B H x y v u Q I e g h;obtain⟨p,xs,rfl,hq,d,fs,q⟩:=h;cases g;rcases hq with hq|hq
 .obtain⟨c,r,pl,f⟩:=I.list hq;refine SeqAt.notIn_listAt (eqU x) pl.isList (λw hw=>wW e d r fs w (by simpa using hw)) ⟨.bl _,H,I,rfl,?_⟩;rw[show c.toArray.any (eqU x)=c.any (eqU x) by simp,sq r fs];exact q
 .obtain⟨c,r,pl,f⟩:=I.tuple hq;refine SeqAt.notIn_tupleAt (eqU x) pl (λw hw=>wW e d r fs w (by simpa using hw)) ⟨.bl _,H,I,rfl,?_⟩;rw[show c.toArray.any (eqU x)=c.any (eqU x) by simp,sq r fs];exact q
def yO :yt X (.builtin "len") (λxs H Q=>∃p ys,xs=[.ref p]/\(SqL X.K H p ys\/SqT X.K H p ys)/\Q (.int ys.length) H):=by
 intro pins s B H xs us Q I r h;obtain⟨p,ys,rfl,hq,q⟩:=h;obtain⟨u,rfl,f⟩:=vals1 r;cases f;have hn:=sR;rcases hq with hq|hq
 .obtain⟨d,c,pl,e⟩:=I.list hq;have hlen:=c.length;exact Calls.call_len_list pl.isList (by simp only[z09]<;>exact zx2 hn hlen e) ⟨.int ys.length,H,I.tok _,⟨s.toks+1,by rw[z09,hlen]⟩,q⟩
 .obtain⟨d,c,pl,e⟩:=I.tuple hq;have hlen:=c.length;exact len_tuple pl (by simp only[z09]<;>exact zx2 hn hlen e) ⟨.int ys.length,H,I.tok _,⟨s.toks+1,by rw[z09,hlen]⟩,q⟩
def ur :yt X (.type "list") (λxs H Q=>∃p ys,xs=[.ref p]/\(SqL X.K H p ys\/SqT X.K H p ys)/\∀l,H l=none->Q (.ref l) (upd H l (.lst ys))):=by
 intro pins s B H xs us Q I r h;obtain⟨p,ys,rfl,hq,q⟩:=h;obtain⟨u,rfl,j⟩:=vals1 r;cases j;have fin:∀c,Vals ys c->ys.length<=sizeLine->∀h' c',(∀b o',s.heap.get? b=some o'->h'.get? b=some o')->
   h'.get? s.heap.objs.size=some {cls:=.type "list",dict:=none,data:=.seq c.toArray c',slots:=#[]}->EP X pins B Q (.ref s.heap.objs.size) {s with heap:=h'}:=λc d f h' c' kp e=>
  ⟨.ref s.heap.objs.size,_,I.laid kp (zZ8 _) (show yi X.prog X.w _ h' _ (.lst ys)from⟨f,c,c',d,e⟩),rfl,q _ (I.hok.fresh (zZ8 _))⟩
 rcases hq with hq|hq
 .obtain⟨c,d,pl,f⟩:=I.list hq;obtain⟨o,i,g,n,hd⟩:=pl.isList;exact call_list_seq p (.inl rfl) i g hd (λh' c' kp e=>fin c d f h' c' kp e) (by simp only[z09]<;>exact z05 (z26 d.length.symm) f)
 .obtain⟨c,d,pl,f⟩:=I.tuple hq;obtain⟨o,i,g,n,hd⟩:=pl;exact call_list_seq p (.inr rfl) i g hd (λh' c' kp e=>fin c d f h' c' kp e) (by simp only[z09]<;>exact z05 (z26 d.length.symm) f)
def qo :yt X (.type "tuple") (λxs H Q=>∃p ys,xs=[.ref p]/\((SqL X.K H p ys/\∀l,H l=none->Q (.ref l) (upd H l (.tup ys)))\/(SqT X.K H p ys/\Q (.ref p) H))):=by
 intro pins s B H xs us Q I r h;obtain⟨p,ys,rfl,h⟩:=h;obtain⟨u,rfl,j⟩:=vals1 r;cases j;rcases h with⟨hq,q⟩|⟨hq,q⟩
 .obtain⟨c,d,pl,f⟩:=I.list hq;have hlen:=d.length;refine call_tuple_list pl.isList (λh' kp=>?_) (by simp only[z09]<;>exact z05 (z26 hlen.symm) f);have g:Inv X pins B H {s with heap:=h'}:=I.kept (t':=s.toks) kp;have i:Inv X pins B (upd H h'.objs.size (.tup ys)) {s with heap:=h'.push {cls:=.type "tuple",data:=.seq c.toArray}}:=
   g.laid (t':=s.toks) (λb o e=>zZ4 _ e) (zZ8 _) (show yi X.prog X.w _ _ _ (.tup ys)from⟨f,c,d,IsTup.new _ _⟩)
  exact⟨.ref h'.objs.size,_,i,rfl,q _ (g.hok.fresh (zZ8 _))⟩
 .obtain⟨c,d,pl,f⟩:=I.tuple hq;exact call_tuple_same pl ⟨.ref p,H,I,rfl,q⟩
def tyV (K:Ac)(T:String)(x:V)(H:Hp):Prop:=match x with
 |.str _=>T="str"
 |.int _=>T="int"
 |.ref p=>(T="list"/\∃xs,SqL K H p xs)\/(T="tuple"/\∃o,K.lookup p=some o/\o.cls=.type "tuple"/\o.dict=none)\/
   (T="dict"/\((∃kvs,H p=some (.dK kvs))\/∃kvs,H p=some (.dT kvs)))\/(T="set"/\∃S n,H p=some (.set S n))
 |_=>False
theorem kf {pins:List (Ae×Obj)}{B:St}{H:Hp}{s:Ad}{T:String}{x:V}{v:Ab}(I:Inv X pins B H s)(r:RelV x v)(ty:tyV X.K T x H):
  s.TypeIs v T/\∀a,v=.ref a->∃ob,s.heap.get? a=some ob/\ob.dict=none:=by
 cases x with
 |str z=>
  obtain⟨t,rfl⟩:=r;cases(ty);exact⟨typeIs_str s z t,λ_ e=>nomatch e⟩
 |int i=>
  obtain⟨t,rfl⟩:=r;cases(ty);exact⟨typeIs_int s i t,λ_ e=>nomatch e⟩
 |ref p=>
  cases r;rcases ty with⟨rfl,xs,hq⟩|⟨rfl,o,hk,f,hd⟩|⟨rfl,hk⟩|⟨rfl,S,n,hk⟩
  .obtain⟨g,_,pl,_⟩:=I.list hq;refine⟨pl.isList.typeIs,λa e=>?_⟩;cases e;obtain⟨o,n,e,c,hd,_⟩:=pl;exact⟨o,e,hd⟩
  .refine⟨⟨o,I.kIn p o hk,f⟩,λa e=>?_⟩;cases e;exact⟨o,I.kIn _ o hk,hd⟩
  .have z:∃o,s.heap.get? p=some o/\o.ExactDict:=by
    rcases hk with⟨kvs,hk⟩|⟨kvs,hk⟩
    .obtain⟨_,_,_,_,o,_,_,e,ex,_⟩:=I.hok p _ hk;exact⟨o,e,ex⟩
    .obtain⟨_,_,_,_,o,_,_,e,ex,_⟩:=I.hok p _ hk;exact⟨o,e,ex⟩
   obtain⟨o,e,ex⟩:=z;refine⟨⟨o,e,ex.1⟩,λa d=>?_⟩;cases d;exact⟨o,e,ex.2.1⟩
  .obtain⟨o,_,_,_,e,ex,_⟩:=I.hok p _ hk;refine⟨⟨o,e,ex.1⟩,λa d=>?_⟩;cases d;exact⟨o,e,ex.2.1⟩
 |_=>exact False.elim ty
def zY4 (K:Ac)(T:String)(r:V->List V->Hp->VK->Prop)(to:TE):TE:=λB H Q=>to B H λx H1=>tyV K T x H1/\r x [] H1 Q
def tBM (K:Ac)(T:String)(r:V->List V->Hp->VK->Prop)(to:TE)(t:TA):TE:=λB H Q=>to B H λx H1=>tyV K T x H1/\t B H1 λxs c=>r x xs c Q
variable {o e:Ak}{es:List Ak}{to:TE}{t:TA}{name:Str}{apos cpos:Pos}{T id:String}{r:V->List V->Hp->VK->Prop}
def zD9 (pa:PlainAttrs T)(slot:Slot T name id)(g:typeOf (.builtin id)=pure (.type "method_descriptor"))(hm:MtR X id r)(l:PE X o to)
  (c:attributeBase o name X.env (eval o X.env)=eval o X.env:=by rfl) (d:(apos.endLine == cpos.line)=true:=by rfl):PE X (.Call (.Attribute o name apos) [] [] cpos) (zY4 X.K T r to):=by
 intro pins s B H Q I h;refine wpAny_Call_method0_late c d (thn (l pins s B H _ I h) λv s1 f=>?_);obtain⟨x,H1,i,j,ty,k⟩:=f;obtain⟨h1,h2⟩:=kf i j ty;exact⟨T,id,pa,slot,g,h1,h2,yg6 rfl (PySem.evalArgs_none (hm pins s1 B H1 x [] v [] Q i j .nil k))⟩
def zw9 (pa:PlainAttrs T)(slot:Slot T name id)(k:typeOf (.builtin id)=pure (.type "method_descriptor"))(hm:MtR X id r)(z:PE X o to)(ha:PA X (e::es) t)
  (d:attributeBase o name X.env (eval o X.env)=eval o X.env:=by rfl)
  (g:((backTo cpos (Af (e::es) X.env)).all (λx=>!x.1)&&(backToKw cpos (keywordEach [] X.env)).all (λx=>x.1.isSome)
   &&decide ((e::es).length+([]:List Keyword).length+(if([]:List Keyword).isEmpty then 0 else 1)<30))=true:=by rfl)
  (f:(apos.endLine == cpos.line)=true:=by rfl) (u:Af (e::es) X.env=(false,eval e X.env)::Af es X.env:=by rfl) (c:(backTo cpos (Af es X.env)).any (·.1)=false:=by rfl):
  PE X (.Call (.Attribute o name apos) (e::es) [] cpos) (tBM X.K T r to t):=by
 intro pins s B H Q I h;refine wpAny_Call_method_late d g f rfl (thn (z pins s B H _ I h) λv s1 j=>?_);obtain⟨x,H1,n,m,ty,p⟩:=j;obtain⟨h1,h2⟩:=kf n m ty;refine⟨T,id,pa,slot,k,h1,h2,?_⟩;have l:=ha cpos pins s1 B H1 _ n p;rw[u]at l ⊢;refine yg6 (by show(false||(backTo cpos (Af es X.env)).any (·.1))=false;rw[c]<;>rfl) (Calls.evalArgs_plain ?_);exact thn l λus s2 i=>by obtain⟨vs,A,y,w,q⟩:=i;exact hm pins s2 B A x vs v us Q y m w q
/- xs.append(e),list.index on a module's tuple .. are MtR facts of 06m -/
end
def MtM (X:Cx)(id:String)(r:V->List V->Hp->VK->Prop):Prop:=
 ∀(pins:List (Ae×Obj)) (s:Ad) (B:St) (H:Hp) (x:V) (xs:List V) (v:Ab) (us:List Ab) (Q:VK),Inv X pins B H s->RelV x v->Vals xs us->r x xs H Q->
  Aj (Al X.prog X.w) X.A (call (.builtin id) (v::us)) (EP X pins B Q) X.xe s
theorem Vals.one {x:V}{us:List Ab}(h:Vals [x] us):∃u,us=[u]/\RelV x u:=by
 cases h with
 |cons r q=>cases q;exact⟨_,rfl,r⟩
theorem Vals.two {x y:V}{us:List Ab}(h:Vals [x,y] us):∃u v,us=[u,v]/\RelV x u/\RelV y v:=by
 cases h with
 |cons r q=>
  cases q with
  |cons q z=>cases z;exact⟨_,_,rfl,r,q⟩
theorem Vals.eraseIdx :∀{xs:List V}{us:List Ab} (i:Nat),Vals xs us->Vals (xs.eraseIdx i) (us.eraseIdx i)
 |_,_,_,.nil=>.nil
 |_,_,0,.cons _ t=>t
 |_,_,i+1,.cons r t=>.cons r (Vals.eraseIdx i t)
theorem qC {L:Type}:∀(l:List L) (i:Nat),(l.eraseIdx i).length<=l.length
 |[],_=>zZ8 _
 |_::_,0=>ya1 _
 |_::r,i+1=>Nat.succ_le_succ (qC r i)
section
variable {X:Cx}{pins:List (Ae×Obj)}{B:St}{H:Hp}{s:Ad}{l b:Ae}{xs ys zs:List V}
def Inv.lset {c a:List Ab}{n:Nat}{f:Array Ab->Array Ab}{t':Nat}(I:Inv X pins B H s)(d:H l=some (.lst xs))
  (e:s.heap.get? l=some {cls:=.type "list",data:=.seq c.toArray n}) (hf:f c.toArray=a.toArray) (g:Vals ys a) (h:ys.length<=sizeLine):
  Inv X pins B (upd H l (.lst ys)) {s with heap:=s.heap.update l (Obj.mapSeq f),toks:=t'}:=by
 have q:=PySem.IsL.update e f;rw[hf]at q;refine I.write (by rw[d];trivial) (.inl rfl) (λj u hb i=>(z35 s.heap (Obj.mapSeq f) (z42 hb)).trans i) ⟨_,q⟩ ?_;exact⟨h,a,_,g,q⟩
def Inv.lnew {a:List Ab}{t':Nat}(I:Inv X pins B H s)(d:Vals ys a)(c:ys.length<=sizeLine):
  Inv X pins B (upd H s.heap.objs.size (.lst ys)) {s with heap:=s.heap.push {cls:=.type "list",data:=.seq a.toArray},toks:=t'}:=
 I.laid (λ_ _ q=>zZ4 _ q) (zZ8 _) ⟨c,a,0,d,z08 _ rfl⟩
theorem Inv.fresh (I:Inv X pins B H s):H s.heap.objs.size=none:=I.hok.fresh (zZ8 _)
def Inv.lstM (I:Inv X pins B H s)(c:H l=some (.lst xs)):xs.length<=sizeLine/\∃(a:List Ab) (n:Nat),Vals xs a/\xs.length=a.length/\s.heap.get? l=some {cls:=.type "list",data:=.seq a.toArray n}:=by
 obtain⟨z,a,n,r,e⟩:=I.hok l _ c;exact⟨z,a,n,r,r.length,e⟩
end
section
variable {X:Cx}
def zr6 :V->List V->Hp->VK->Prop:=λx vs H Q=>∃l xs y,x=.ref l/\vs=[y]/\H l=some (.lst xs)/\xs.length<sizeLine/\Q .non (upd H l (.lst (xs++[y])))
def qE :MtM X "list.append" zr6:=by
 intro pins s B H x vs v us Q I i g h;obtain⟨l,xs,y,rfl,rfl,b,c,q⟩:=h;cases i;obtain⟨u,rfl,f⟩:=g.one;obtain⟨z,a,n,r,d,e⟩:=I.lstM b;refine call_meets F.slot_list_append ⟨_,e,rfl⟩ F.entry_list_append (F.args_list_append_2 _ _) (PySem.list_append l a.toArray n u (by rw[z09];exact z58 (z29 (z26 d.symm) c))) ⟨e,?_⟩;refine⟨.non,_,I.lset b e (by simp) (r.append (.cons f .nil)) ?_,rfl,q⟩;rw[z24,yh8];exact c
def zH3 :V->List V->Hp->VK->Prop:=λx vs H Q=>∃l xs i k y,x=.ref l/\vs=[.int i]/\H l=some (.lst xs)/\-(2 ^ 63)<=i/\i<2 ^ 63/\seqIndex? i xs.length=some k/\xs[k]?=some y/\Q y (upd H l (.lst (xs.eraseIdx k)))
def cX :MtM X "list.pop" zH3:=by
 intro pins s B H x vs v us Q I j g h;obtain⟨l,xs,i,k,y,rfl,rfl,d,h1,h2,hk,hy,q⟩:=h;cases j;obtain⟨u,rfl,f⟩:=g.one;obtain⟨t,rfl⟩:=f;obtain⟨z,b,n,r,c,e⟩:=I.lstM d;obtain⟨w,hw,a⟩:=r.get hy;refine call_meets F.slot_list_pop ⟨_,e,rfl⟩ F.entry_list_pop (F.args_list_pop_2 _ _)
  (MeetsSeq.list_pop_at l b.toArray n i t k w (fitsIndex_both h1 h2) (by rw[z09,<-c];exact hk) (by rw[<-Array.getElem?_toList];exact hw) (by rw[z09];exact z05 (z26 c.symm) z)) ⟨e,?_⟩
 refine⟨y,_,I.lset d e ?_ (r.eraseIdx k) ?_,a,q⟩
 .rw[List.eraseIdxIfInBounds_toArray]
 .have:=qC xs k;exact z05 this z
def zU9 :R2:=λx y H Q=>∃l b xs zs,x=.ref l/\y=.ref b/\H l=some (.lst xs)/\H b=some (.lst zs)/\xs.length+zs.length<=sizeLine/\∀p,H p=none->Q (.ref p) (upd H p (.lst (xs++zs)))
def zB0 :OpR X (binaryOp .Add) zU9:=by
 intro pins s B H x y v u Q I t o h;obtain⟨l,b,xs,zs,rfl,rfl,k,p,f,q⟩:=h;cases t;cases o;obtain⟨z,c,n,r,g,e⟩:=I.lstM k;obtain⟨A,a,w,i,d,m⟩:=I.lstM p;refine PySem.P.add_list e m ?_ (by rw[z09,z09];exact zS1 f g d);have j:c.toArray++a.toArray=(c++a).toArray:=by simp
 rw[j];exact⟨.ref _,_,I.lnew (r.append i) (by rw[z24];exact f),rfl,q _ I.fresh⟩
end
section
variable {prog:Ag}{w:Ai}{A:Am}{E:Ab->Ad->Prop}{s:Ad}
end
section
variable {X:Cx}
end
end L2
namespace Att
open PySem PySem.W PySem.Calls PyProof.Rows
theorem tL {P:Params}{h:Ao}:∀(ns:List Int) (vs:List Ab),WellAll P h vs (ns.map WData.int)->IntsAre vs ns:=by
 intro ns
 induction ns with
 |nil=>
  intro vs w;rw[yd2]at w;cases w;exact .nil
 |cons n ns c=>
  intro vs w;rw[z27]at w;cases w with
  |cons a b=>
   cases a;exact .cons _ _ (c _ b)
theorem fV {l:OpenLaw}{n:Nat}(hn:l.most=some n){P:Params}{h:Ao}{args:List WData}{vals:List Ab}
  (b:l.row.toRowW.claim.pre args=true) (g:WellAll P h vals args):
  ∃a vs ns,vals=[Value.ref a]/\args=[WData.list (ns.map WData.int)]/\h.get? a=some {cls:=.type "list",data:=.seq vs.toArray}/\IntsAre vs ns/\ns.length<=n:=by
 have i:l.pre.holds [] {args:=args}=true:=(pre_splitW b).2;obtain⟨d,r,rfl,h1,h2⟩:=hasAllW_cons ((pre_splitW b).1);obtain rfl:=hasAllW_nil h2;obtain⟨xs,rfl,h3⟩:=hasW_list h1;obtain⟨ns,rfl⟩:=items_int h3;have hlen:ns.length<=n:=by
  unfold OpenLaw.pre at i;have f:(WTm.not (.lt (.lit (.int n)) (.len (.arg 0)))).holds [] {args:=[.list (ns.map .int)]}=true:=by
   have f:=(holds_andW i).1;rw[hn]at f;exact f
  have e:=condW_of f (w_not (w_lt w_lit (w_len_list (w_arg rfl))));rw[zZ2]at e;refine z98 λq=>?_
  first
   |(rw[z39 ((Int.ofNat_lt.2 q))]at e;exact absurd e (by decide))
   |(simp at e;omega)
 cases g with
 |cons j k=>
  cases k;cases j with
  |list m c=>exact⟨_,_,ns,rfl,rfl,m,tL ns _ c,hlen⟩
def fB (l:OpenLaw)(args:List WData):l.row.toRowW.claim.post args (.bool true) args=true:=
 postW_of
  (show WShape.has [] (.bool true) .bool=true by first|rfl|decide|simp[WShape.has,WShape.arms,WShape.armsAll])
  (w_eq_bool (w_res rfl) w_lit) rfl
def attach_call {l:OpenLaw}{n:Nat}{q:Ag}{loose:List Str}{m:(Str->Option Ab)->Ao->Prop}{s:Ai->Ao->Prop}{d:DefRec}
  (hn:l.most=some n) (hdf:d.params.defaults=[])
  (call:∀(w:Ai) (s₀ b:Ad) (mg mb:Str->Option Ab) (g:Ae) (o:Obj) (pm cd doc:Ab) (a:Ae) (vs:List Ab) (ns:List Int),
   Ground q loose [] m w s₀ mg mb b.heap->s w b.heap->
   b.heap.get? g=some o->o.data=.func (docDef d.name d.params d.body d.scope pm cd doc)->b.heap.CodeRec cd d.name->mg d.name=some (.ref g)->
   b.heap.get? a=some {cls:=.type "list",data:=.seq vs.toArray}->IntsAre vs ns->ns.length<=n->b.gens=#[]->
   codeAny (Al l.prog w) callerA (.call (.ref g) ⟨[.ref a],[]⟩) (λr s'=>r=.ok (.ret (.bool true))/\OldK b.heap s'.heap/\s'.os=b.os/\AllBare s'.gens) b):
  WalkO q loose m s l.row.toRowW d [] (λf vs=>PySem.call f vs):=by
 intro w s₀ b mg mb G Y g o pm cd doc dV kV v hd i k j hg args vals as e p t h u;obtain rfl:dV=.none:=Dflts.none k hdf;obtain rfl:kV=.none:=Dflts.noKw k;obtain⟨a,vs,ns,rfl,rfl,c,hints,hlen⟩:=fV hn e h;refine enter_call (yi4 (call w s₀ b mg mb g o pm cd doc a vs ns G Y v (fd_plain hd) i j c hints hlen hg) λr s' hq=>?_);obtain⟨rfl,h2,h3,x⟩:=hq;exact⟨.inl ⟨.bool true,.bool true,[],rfl,λ_=>rfl,.bool true,fB l _,λ_=>⟨List.Pairwise.nil,λ_ hm=>(nomatch hm)⟩⟩,h2,h3,x⟩
section
variable {prog:Ag}{w:Ai}{A:Am}{E:Ab->Ad->Prop}{s:Ad}{K:Frag}
end
end Att
namespace L2
open PySem PySem.Spec PyProof.Rows
theorem fg {vs:List Ab}{ns:List Int}(h:IntsAre vs ns):Vals (ns.map V.int) vs:=by
 induction h with
 |nil=>exact .nil
 |cons n t _ a=>exact .cons ⟨t,rfl⟩ a
noncomputable def inClass (s:An)(j:Nat):An:=match s with
 |.ClassDef _ _ _ body _ _ _ _ _ _ _=>body.getD j (.Pass ⟨0,0,0,0⟩)
 |_=>.Pass ⟨0,0,0,0⟩
noncomputable def zT (s:An):Arguments:=match s with
 |.FunctionDef _ a _ _ _ _ _ _ _ _=>a
 |_=>{posonlyargs:=[],args:=[],vararg:=none,kwonlyargs:=[],kw_defaults:=[],kwarg:=none,defaults:=[]}
def zt (s:An):List An:=match s with
 |.FunctionDef _ _ b _ _ _ _ _ _ _=>b
 |_=>[]
noncomputable def zh (s:An):Aq:=match s with
 |.FunctionDef _ _ _ _ _ _ sc _ _ _=>sc
 |_=>{kind:=.function,names:=[],isGenerator:=false,isCoroutine:=false}
abbrev CX0 :CXT:=λ_ _ _ _ _ _=>False
abbrev E0 :XK:=λ_ _ _=>False
def qN {X:Cx}:Passes CX0 X E0:=λ_ _ _ _ _ _ _ h=>h.elim
structure Fun (K:Ac)(x qual:Str)(st:An)(f:Ae)(fd:Ap):Prop where
 ex:∃(oc:Ab) (od:Option Ae) (kV doc pm:Ab) (an:Option Ae) (cdv ct:Ab) (osl:Array (Option Ab)),
  fd=PySem.W.fnOf x qual (zT st) (zt st) (zh st) .none kV doc pm an cdv ct/\K.lookup f=some ⟨oc,od,.func fd,osl⟩/\PySem.W.codeIn K cdv qual=true
 kp:PySem.W.keepIn K (.ref f)=true
section
variable {P:Ag}{w:Ai}{K:Ac}{mg:Str->Option Ab}{base:Ao}
def Fun.ok {x qual:Str}{st:An}{f:Ae}{fd:Ap}{N ps:List Str}{k:Nat}{sp:Sp}(F:Fun K x qual st f fd)(S:ya N ps (zh st))(len:∀vs H Q E,sp vs H Q E->vs.length=ps.length)
  (a:∀(cdv:Ab) (A:Am) (outer:List Ar) (s:Ad) (H:Hp) (vs:List V) (Q:VK) (E:XK),zR k (A.deeper (envOfC qual (zh st) s.heap.objs.size f cdv))->sp vs H Q E->
   ∃t,PSs (vv CX0 P w K mg base N qual (zh st) f cdv A outer s H E).nox (zt st) t/\t {nx:=λ_ H'=>Q .non H',rt:=Q} (start N vs) H):yE P w K mg base CX0 (k+1) f fd ps sp:=by
 obtain⟨oc,od,kV,doc,pm,an,cdv,ct,osl,rfl,d,c⟩:=F.ex;refine bE d c S len λA outer s H vs Q E hr b=>?_;obtain⟨t,h,q⟩:=a cdv A outer s H vs Q E hr b;exact⟨t,h.nox,q⟩
def Fun.binds {x qual:Str}{st:An}{f:Ae}{fd:Ap}{ps:List Str}(F:Fun K x qual st f fd)
  (h:∀(kV doc pm:Ab) (an:Option Ae) (cdv ct:Ab) (us:List Ab),us.length=ps.length->bindArgs (PySem.W.fnOf x qual (zT st) (zt st) (zh st) .none kV doc pm an cdv ct) ⟨us,[]⟩=pure (ps.zip us)):Binds K fd ps []:=by
 obtain⟨oc,od,kV,doc,pm,an,cdv,ct,osl,rfl,b,a⟩:=F.ex;exact .all (h kV doc pm an cdv ct)
def oe {x qual:Str}{st:An}{f:Ae}{oc:Ab}{od an:Option Ae}{osl:Array (Option Ab)}{kV doc pm cdv ct:Ab}(l:K.lookup f=some ⟨oc,od,.func (PySem.W.fnOf x qual (zT st) (zt st) (zh st) .none kV doc pm an cdv ct),osl⟩)
  (c:PySem.W.codeIn K cdv qual=true) (k:PySem.W.keepIn K (.ref f)=true):Fun K x qual st f (PySem.W.fnOf x qual (zT st) (zt st) (zh st) .none kV doc pm an cdv ct):=⟨⟨oc,od,kV,doc,pm,an,cdv,ct,osl,rfl,l,c⟩,k⟩
end
def yo {n:Nat}(h:n<=1000):n<sizeLine:=z29 h (by decide)
section
variable {X:Cx}
def pv (i:Nat){x:Str}{pos:Pos}(b:X.N[i]?=some x:=by rfl)(c:Vis X.env.scope x:=by first|exact Or.inl rfl|exact Or.inr (Or.inl rfl)|exact Or.inr (Or.inr rfl))(hd:(x == ("__debug__":Str))=false:=by decide)
  (a:(x == ("__classdict__":Str))=false:=by decide):PE X (.Name x pos) (zg3 i):=xj b c hd a
end
def tP {A B:Prop}(h:B):if false=true then A else B:=by
 rw[if_neg z32];exact h
def tO {A B:Prop}(h:A):if true=true then A else B:=by
 rw[if_pos rfl];exact h
def dO {c A B:Prop}[Decidable c](h1:c->A)(h2:¬c->B):if c then A else B:=by
 by_cases h:c
 .rw[if_pos h];exact h1 h
 .rw[if_neg h];exact h2 h
def zz (H H':Hp):Prop:=∀b o,H b=some o->H' b=some o
def zz.refl (H:Hp):zz H H:=λ_ _ h=>h
def zz.trans {H H1 d:Hp}(a:zz H H1)(b:zz H1 d):zz H d:=λc o h=>b c o (a c o h)
theorem zz.free {H H':Hp}(e:zz H H'){l:Ae}(h:H' l=Option.none):H l=Option.none:=by
 cases q:H l with
 |none=>rfl
 |some o=>
  rw[e l o q]at h;cases h
def zz.seq {K:Ac}{H H':Hp}{a:Ae}{xs:List V}(e:zz H H')(h:SqL K H a xs):SqL K H' a xs:=by
 rcases h with(h|⟨o,h⟩)|h
 .exact .inl (.inl (e _ _ h))
 .exact .inl (.inr ⟨o,e _ _ h⟩)
 .exact .inr h
noncomputable def uC (cells:List (Str×Ae)):List (Str×NameKind)->List (Str×Ae)->List (Str×Ae)
 |[],acc=>acc
 |(n,k)::r,acc=>uC cells r (if k=.free then(n,(cells.lookup n).getD 0)::acc else acc)
def vA {env:Ar}{scope:Aq}(h:∀y∈scope.names,y.2=.free->∃c,env.cells.lookup y.1=some c):
  closureFor scope env=pure (uC env.cells scope.names []):=by
 have key:∀ns acc,(∀y∈ns,y.2=.free->∃c,env.cells.lookup y.1=some c)->
   (forIn ns acc λx r=>(if(x.2 == NameKind.free)=true then(do let a <-cellOf env x.1;pure (ForInStep.yield ((x.1,a)::r)))else pure (ForInStep.yield r):Sem (ForInStep (List (Str×Ae)))))=pure (uC env.cells ns acc):=by
  intro ns
  induction ns with
  |nil=>intro acc _;rfl
  |cons y r e=>
   intro acc hy;obtain⟨n,k⟩:=y;rw[yi8];have hr:∀z∈r,z.2=.free->∃c,env.cells.lookup z.1=some c:=λz f=>hy z (z01 _ f);by_cases hk:k=.free
   .subst hk;obtain⟨c,d⟩:=hy (n,.free) z03 rfl;have e1:cellOf env n=pure c:=by
     unfold cellOf;rw[d]
    have b:((NameKind.free == NameKind.free)=true):=rfl;simp only[b,yc1,e1,pure_bind];rw[e _ hr];show _=pure (uC env.cells r (if NameKind.free=NameKind.free then(n,(env.cells.lookup n).getD 0)::acc else acc));rw[if_pos rfl,d];rfl
   .have b:(k == NameKind.free)=false:=by simpa using hk
    simp only[b,z52,z87,pure_bind];rw[e _ hr];show _=pure (uC env.cells r (if k=NameKind.free then(n,(env.cells.lookup n).getD 0)::acc else acc));rw[if_neg hk]
 have q:=key scope.names [] h;unfold closureFor;simp only[]at q ⊢;rw[show(forIn scope.names ([]:List (Str×Ae)) λx r=>_)=_ from q];rfl
theorem mx {cells:List (Str×Ae)}:∀(ns:List (Str×NameKind)) (acc:List (Str×Ae)),(∀y∈ns,y.2=.free->∃c,cells.lookup y.1=some c)->
  ∀x c,(x,c)∈uC cells ns acc->(x,c)∈acc\/((x,NameKind.free)∈ns/\cells.lookup x=some c)
 |[],acc,_,x,c,h=>.inl h
 |(n,k)::r,acc,hy,x,c,h=>by
  have hr:∀z∈r,z.2=.free->∃c,cells.lookup z.1=some c:=λz j=>hy z (z01 _ j);have h':=h;rcases mx r _ hr x c h' with q|⟨d,i⟩
  .by_cases hk:k=.free
   .rw[if_pos hk]at q;rcases zZ9.mp q with e|q
    .obtain⟨c',g⟩:=hy (n,k) z03 hk;have e1:=congrArg Prod.fst e;have b:=congrArg Prod.snd e;have a:=g;rw[a]at b;have f:=b;subst e1 f hk;exact .inr ⟨z03,a⟩
    .exact .inl q
   .rw[if_neg hk]at q;exact .inl q
  .exact .inr ⟨z01 _ d,i⟩
theorem me {cells:List (Str×Ae)}:∀(ns:List (Str×NameKind)) (acc:List (Str×Ae)) (p:Str×Ae),p∈acc->p∈uC cells ns acc
 |[],_,_,h=>h
 |(n,k)::r,acc,p,h=>by
  show p∈uC cells r (if k=.free then(n,(cells.lookup n).getD 0)::acc else acc);refine me r _ p ?_;split
  .exact z01 _ h
  .exact h
theorem mR {cells:List (Str×Ae)}:∀(ns:List (Str×NameKind)) (acc:List (Str×Ae)) (x:Str),(x,NameKind.free)∈ns->∃c,(x,c)∈uC cells ns acc
 |[],_,_,h=>by simp at h
 |(n,k)::r,acc,x,h=>by
  show ∃c,(x,c)∈uC cells r (if k=.free then(n,(cells.lookup n).getD 0)::acc else acc);rcases zZ9.mp h with e|h
  .have e1:x=n:=congrArg Prod.fst e;have a:=congrArg Prod.snd e;subst e1 a;rw[if_pos rfl];exact⟨_,me r _ _ z03⟩
  .exact mR r _ x h
theorem mem_lookup {x:Str}{c:Ae}:∀{l:List (Str×Ae)},(x,c)∈l->∃d,l.lookup x=some d
 |[],h=>by simp at h
 |(n,a)::r,h=>by
  rw[z65];cases e:x == n with
  |true=>exact⟨a,rfl⟩
  |false=>
   rcases zZ9.mp h with q|q
   .have e1:x=n:=congrArg Prod.fst q;rw[e1]at e;simp at e
   .exact mem_lookup q
structure zP (XN:List Str)(xs:Aq)(N:List Str)(imp:List (Option Nat))(scope:Aq):Prop where
 kind:scope.kind=.function
 nd:N.Nodup
 nocell:∀y∈scope.names,y.2≠.cell
 locs:∀y∈scope.names,y.2=.local->scope.names.lookup y.1=some .local
 frees:∀y∈scope.names,y.2=.free->xs.names.lookup y.1=some .cell\/xs.names.lookup y.1=some .free
 len:imp.length=N.length
 impsB:((imp.zip N).all λp=>match p.1 with|none=>true|some j=>XN[j]? == some p.2&&scope.names.lookup p.2 == some .free)=true
def zP.imps {XN N:List Str}{xs scope:Aq}{imp:List (Option Nat)}(S:zP XN xs N imp scope):∀(i j:Nat),imp[i]?=some (some j)->∃x,N[i]?=some x/\XN[j]?=some x/\scope.names.lookup x=some .free:=by
 intro i j h;have hn:i<N.length:=by rw[<-S.len];exact((zZ6.mp h).1)
 have b:=zZ5 hn;have hm:(some j,N[i])∈imp.zip N:=by
  have c:(imp.zip N)[i]?=some (some j,N[i]):=by
   rw[List.getElem?_zip_eq_some];exact⟨h,b⟩
  exact z47 c
 have a:=(z79.mp S.impsB _ hm);rw[z36]at a;exact⟨N[i],b,eq_of_beq a.1,eq_of_beq a.2⟩
noncomputable def wG (imp:List (Option Nat))(B:St):St:=imp.map λo=>o.bind λj=>(B[j]?).bind id
theorem gP {imp:List (Option Nat)}{B:St}{i:Nat}{v:V}(h:(wG imp B)[i]?=some (some v)):∃j,imp[i]?=some (some j)/\B[j]?=some (some v):=by
 unfold wG at h;rw[z04]at h;cases e:imp[i]? with
 |none=>rw[e]at h;cases h
 |some o=>
  rw[e]at h;have h':=z34 h;cases o with
  |none=>cases h'
  |some j=>
   have h2:(B[j]?).bind id=some v:=h';cases e2:B[j]? with
   |none=>rw[e2]at h2;cases h2
   |some w=>
    rw[e2]at h2;have h3:w=some v:=h2;exact⟨j,rfl,by rw[e2,h3]⟩
noncomputable def Cx.comp (X:Cx)(N:List Str)(scope:Aq)(C:Ae)(s2:Ad)(a:Hp)(fp:List Ae):Cx where
 prog:=X.prog
 w:=X.w
 K:=X.K
 mg:=X.mg
 base:=X.base
 A:=X.A
 N:=N
 s₀:=s2
 H₀:=a
 env:=compEnvC scope (uC X.env.cells scope.names []) C X.env
 outer:=X.stack
 stack:=X.stack
 ex:=fp
 fn:=λ_=>false
 calm:=X.calm
 pn:=[]
 xe:=λ_ _=>False
theorem uu {env:Ar}:∀{names:List (Str×NameKind)}{x:Str},
  (names.map λ(n,k)=>if(k == NameKind.free&&env.scope.kind == .function&&env.kindOf n == some .cell)then(n,NameKind.cell)else(n,k)).lookup x=some .cell\/
  (names.map λ(n,k)=>if(k == NameKind.free&&env.scope.kind == .function&&env.kindOf n == some .cell)then(n,NameKind.cell)else(n,k)).lookup x=some .free->
  (∀y∈names,y.2≠.cell)->(x,NameKind.free)∈names
 |[],x,h,_=>by simp at h
 |(n,k)::r,x,h,hc=>by
  have f:=@uu env r x;rw[z27]at h;dsimp only at h;by_cases d:x=n
  .subst d;by_cases hk:k=.free
   .subst hk;exact z03
   .have a:(k == NameKind.free)=false:=by simpa using hk
    simp only[a,z46,z52,z87,z65,beq_self_eq_true,yc1]at h;rcases h with h|h
    .have e:=z34 h;exact absurd e (hc (x,k) z03)
    .have e:=z34 h;exact absurd e hk
  .have c:(x == n)=false:=by simpa using d
   have step:∀b l,List.lookup x ((if b=true then(n,NameKind.cell)else(n,k))::l)=l.lookup x:=λb l=>by
    cases b<;>simp[z65,c]
   rw[step]at h;exact z01 _ (f h λy hy=>hc y (z01 _ hy))
theorem tH {env:Ar}:∀{names:List (Str×NameKind)}{x:Str},names.lookup x=some .free->
  (names.map λ(n,k)=>if(k == NameKind.free&&env.scope.kind == .function&&env.kindOf n == some .cell)then(n,NameKind.cell)else(n,k)).lookup x=some .cell\/
  (names.map λ(n,k)=>if(k == NameKind.free&&env.scope.kind == .function&&env.kindOf n == some .cell)then(n,NameKind.cell)else(n,k)).lookup x=some .free
 |[],x,h=>by simp at h
 |(n,k)::r,x,h=>by
  have a:=@tH env r x;rw[z27];dsimp only;rw[z65]at h;cases hx:x == n with
  |true=>
   rw[hx]at h;have e:=z34 h;subst e;by_cases hb:(NameKind.free == NameKind.free&&env.scope.kind == .function&&env.kindOf n == some .cell)=true
   .left;rw[if_pos hb];simp[z65,hx]
   .right;rw[if_neg hb];simp[z65,hx]
  |false=>
   rw[hx]at h;have step:∀b l,List.lookup x ((if b=true then(n,NameKind.cell)else(n,k))::l)=l.lookup x:=λb l=>by
    cases b<;>simp[z65,hx]
   rw[step];exact a h
section
variable {X:Cx}{pins:List (Ae×Obj)}{B:St}{H2 H':Hp}{s2 s':Ad}{fp:List Ae}{N:List Str}{imp:List (Option Nat)}{scope:Aq}{C acc:Ae}
def vR (I:Inv X pins B H2 s2)(S:zP X.N X.env.scope N imp scope):∀y∈scope.names,y.2=.free->∃c,X.env.cells.lookup y.1=some c:=λy hy hk=>I.ok.has y.1 (S.frees y hy hk)
def xw (I:Inv X pins B H2 s2)(S:zP X.N X.env.scope N imp scope){x:Str}{c:Ae}(h:(uC X.env.cells scope.names []).lookup x=some c):(x,NameKind.free)∈scope.names/\X.env.cells.lookup x=some c:=by
 rcases mx scope.names [] (vR I S) x c (z70 h)with q|q
 .exact absurd q (by simp)
 .exact q
def vW (I:Inv X pins B H2 s2)(S:zP X.N X.env.scope N imp scope){x:Str}(h:(x,NameKind.free)∈scope.names):∃c,(uC X.env.cells scope.names []).lookup x=some c:=by
 obtain⟨c,a⟩:=mR scope.names [] x h;exact mem_lookup a
def aY {h1:Ao}{Z:Nat}{m:Str->Option Ab}{H:Nat}(I:Inv X pins B H2 s2)(S:zP X.N X.env.scope N imp scope)(hf:∀b∈fp,xg X pins H2 b)(W:∀b∈fp,∃o,s2.heap.get? b=some o)
  (a:acc=s2.heap.objs.size) (n:C=s2.heap.objs.size+1) (old:∀b o,s2.heap.get? b=some o->h1.get? b=some o) (hn:h1.Ns C m)
  (P:h1.get? acc=some {cls:=.type "list",data:=.seq ([]:List Ab).toArray H}):
  Inv (X.comp N scope C s2 H2 fp) [] (wG imp B) (upd H2 acc (.lst [])) {s2 with heap:=h1,toks:=Z}:=by
 have Y:H2 acc=none:=I.hok.fresh (by rw[a];exact zZ8 _);have F:C≠acc:=by rw[n,a];exact Nat.succ_ne_self _
 have D:∀x c,X.env.cells.lookup x=some c->c<s2.heap.objs.size:=λx c e=>by
  obtain⟨v,q⟩:=I.cell x c e;exact q.lt
 refine⟨⟨I.ok.mod,S.kind,I.ok.glob,I.ok.blt,?above,?inj,?has,?cab,I.ok.hd,I.ok.frames,.inl rfl,?exf,λb o e=>I.bs b o e,z05 I.ok.bsz I.sz,?noex,?exfs,I.stack,I.stkFree⟩,
  rfl,I.bare,Un.laid old (by rw[a];exact zZ8 _) Y,⟨m,hn,?loc⟩,?cell,?free,?freeC,λp R=>absurd (show p∈([]:List (Ae×Obj))from R) (by simp),I.hok.laid old (by rw[a];exact zZ8 _) ⟨z21 _,[],H,.nil,P⟩,?len⟩
 case above=>show s2.heap.objs.size<=C;rw[n];exact ya1 _
 case inj=>exact λx y c h1 h2=>I.ok.inj x y c (xw I S h1).2 (xw I S h2).2
 case has=>exact λx T=>vW I S (uu T S.nocell)
 case cab=>exact λx c h _=>absurd h (by show ¬(false=true);simp)
 case exf=>
  intro b hb;obtain⟨o,w⟩:=W b hb;refine⟨?_,λx c e=>(hf b hb).2.2.2.2.1 x c (xw I S e).2⟩;rw[n];exact z30 (yg4 (z07 w))
 case noex=>
  intro b o e hb;rcases(hf b hb).2.2.2.1 with z|z
  .exact I.ok.noex b o e z
  .exact absurd (zZ7 (z07 e) (z05 I.ok.bsz z)) (z56 _)
 case exfs=>
  intro b hb V;rcases zZ9.mp (I.stkSub b V)with e|e
  .exact(hf b hb).2.1 e
  .exact(hf b hb).2.2.1 e
 case loc=>
  intro i x v e1 O e3;obtain⟨j,L,M⟩:=gP O;obtain⟨y,n1,Q,E⟩:=S.imps i j L;have G:(X.comp N scope C s2 H2 fp).N[i]?=some y:=n1;rw[G]at e1;have A:=z34 e1;subst A;have g:=S.frees (y,.free) (z70 E) rfl;obtain⟨mX,U,t⟩:=I.loc;obtain⟨u,r,l⟩:=t j y v Q M (.inr g);refine⟨u,r,?_⟩;rcases l with⟨k,_⟩|⟨k,c,e,z⟩
  .have J:X.env.scope.names.lookup y=some .local:=k;rcases g with z|z
   .have f:=z;rw[J]at f;cases f
   .have f:=z;rw[J]at f;cases f
  .obtain⟨d,hd⟩:=vW I S (z70 E);have hd2:=(xw I S hd).2;rw[e]at hd2;have s:=z34 hd2;subst s;exact .inr ⟨tH E,c,hd,z.keeps old⟩
 case cell=>
  intro x c e;obtain⟨v,q⟩:=I.cell x c (xw I S e).2;exact⟨v,q.keeps old⟩
 case free=>
  show upd H2 acc _ C=none;rw[zd F];exact I.hok.fresh (by rw[n];exact ya1 _)
 case freeC=>
  intro x c e;have K:=(xw I S e).2;rw[zd (by rw[a];exact z30 (D x c K))];exact I.freeC x c K
 case len=>
  unfold wG;rw[zZ2];exact S.len
def fX {pl:List (Ae×Obj)}{a:St}(I:Inv X pins B H2 s2)(hf:∀b∈fp,xg X pins H2 b)(J:Inv (X.comp N scope C s2 H2 fp) pl a H' s'):Inv X pins B H' s':=
 I.call' J.os J.base J.hok J.bare λb hb=>⟨(hf b hb).2.2.2.1,(hf b hb).2.1,(hf b hb).2.2.2.2.1,(hf b hb).2.2.2.2.2⟩
end
section
variable {prog:Ag}{w:Ai}{A:Am}{R:Result->Ad->Prop}{s:Ad}
theorem pO {elt target iter:Ak}{ifs:List Ak}{scope:Aq}{pos:Pos}{it acc:Ab}{env:Ar}(I:Nat->Ad->Prop)
  (turn:∀n s,I n s->Aj (Al prog w) A (pyNext it) (λr s1=>match r with
   |none=>R (.ok .next) s1
   |some v=>Aj (Al prog w) A (letOwnedTupleGo target it v) (λ_ s2=>Aj (Al prog w) A (assign target env v) (λ_ s3=>
     Aj (Al prog w) A (forIn ifs true λc r=>if r=true then do let ok <-isTrue c env (eval c env);pure (ForInStep.yield ok)else pure (ForInStep.yield r)) (λok s4=>
      if ok=true then Aj (Al prog w) A (eval elt env) (λx s5=>
       Aj (Al prog w) A (call (.builtin "list.append") [acc,x]) (λ_ a=>∃m,m<n/\I m a) (λ_ _=>False) s5) (λ_ _=>False) s4
      else ∃m,m<n/\I m s4) (λ_ _=>False) s3) (λ_ _=>False) s2) (λ_ _=>False) s1) (λ_ _=>False) s)
  (n:Nat) (h:I n s):codeAny (Al prog w) A (.compLoop (.ListComp elt [⟨target,iter,ifs,0⟩] scope pos) 0 it acc env) R s:=by
 refine codeAny_loop rfl I (λn s e=>?_) n h;show Aj _ A ((compTurn (.ListComp elt [⟨target,iter,ifs,0⟩] scope pos) 0 it acc env).onRaise (λx=>do noteFrame x env;theTreesLotGoes x)) _ _ s;refine wpAny_noted ?_;rw[compTurn_list];refine zZ3 (wpAny_standAt (zZ3 (z60 (turn n s e) (λr s1 h1=>?_) λ_ _ h'=>False.elim h')));cases r with
 |none=>exact z02 h1
 |some v=>
  refine zZ3 (z60 h1 (λ_ s2 h2=>zZ3 (z60 h2 (λ_ s3 h3=>zZ3 (z60 h3 (λok s4 b=>?_) λ_ _ h'=>False.elim h')) λ_ _ h'=>False.elim h')) λ_ _ h'=>False.elim h');cases ok with
  |false=>exact z02 ⟨rfl,b⟩
  |true=>
   exact zZ3 (zZ3 (z60 b (λx s5 d=>zZ3 (z60 d (λ_ a f=>z02 (z02 ⟨rfl,f⟩)) λ_ _ h'=>False.elim h')) λ_ _ h'=>False.elim h'))
end
def ve (Y:Cx)(ifs:List Ak)(t:TT):Prop:=
 ∀(pins:List (Ae×Obj)) (s:Ad) (B:St) (H:Hp) (Q:Bool->Hp->Prop),Inv Y pins B H s->t B H Q->
  Aj (Al Y.prog Y.w) Y.A (forIn ifs true λc r=>if r=true then do let ok <-isTrue c Y.env (eval c Y.env);pure (ForInStep.yield ok)else pure (ForInStep.yield r)) (TP Y pins B Q) Y.xe s
def zW8 :TT:=λ_ H Q=>Q true H
def zj7 {Y:Cx}:ve Y [] zW8:=λ_ _ _ H _ I h=>wpAny_tests_nil ⟨H,I,h⟩
def iB {Y:Cx}{c:Ak}{t:TT}(h:PT Y c t):ve Y [c] t:=λpins s B H Q I q=>wpAny_tests_one (h pins s B H Q I q)
def ou (J:It)(acc:Ae)(g:TG)(tt:TT)(n:TE)(e:St)(H0:Hp)(Q:VK):Prop:=
 ∃W:Nat->Nat->List V->St->Hp->Prop,(∃m,W 0 m [] e H0)/\∀i m ys h d,W i m ys h d->
  (J.stop i d/\Q (.ref acc) d)\/(J.go i d/\∃N:List V->St->Hp->Prop,(∀b a H',N b a H'->∃l,l<m/\W (i+1) l b a H')/\
   ∀x f,J.yld i d x f->g x h f λτ2 o=>tt τ2 o λc k=>
    if c=true then n τ2 k λy j=>j acc=some (.lst ys)/\ys.length<sizeLine/\N (ys++[y]) τ2 (upd j acc (.lst (ys++[y])))else N ys τ2 k)
def ze5 (b:TI)(imp:List (Option Nat))(g:TG)(tt:TT)(a:TE):TE:=λB H Q=>b B H λJ H1=>∀acc,H1 acc=none->ou J acc g tt a (wG imp B) (upd H1 acc (.lst [])) Q
section
variable {X:Cx}{pins:List (Ae×Obj)}{B:St}{elt iter tg:Ak}{ifs:List Ak}{scope:Aq}{pos:Pos}{wi:TI}{g:TG}{tt:TT}{te:TE}{N:List Str}{imp:List (Option Nat)}
def rC {c:Hp}{s2:Ad}{it:Ae}{fp:List Ae}{tn:Nat->Ao->Prop}{J:It}{RR:Ab->Ae->Result->Ad->Prop}{E:Ab->Ad->Prop}{Q:VK}
  (hc:X.calm=true) (S:zP X.N X.env.scope N imp scope) (hg:∀C s2 c fp,PG (X.comp N scope C s2 c fp) tg g) (ht:∀C s2 c fp,ve (X.comp N scope C s2 c fp) ifs tt) (he:∀C s2 c fp,PE (X.comp N scope C s2 c fp) elt te)
  (Z:Inv X pins B c s2) (T:Turn X.prog X.w X.K tg J fp it tn) (H:tn 0 s2.heap) (f2:∀b∈fp,xg X pins c b)
  (hW:∀acc,c acc=none->ou J acc g tt te (wG imp B) (upd c acc (.lst [])) Q)
  (b2:∀a C H' s' m,Inv X pins B H' s'->s'.heap.Ns C m->xg X pins H' C->Q (.ref a) H'->RR (.ref a) C (.ok .next) s'):
  Aj (Al X.prog X.w) X.A (newList []) (λacc s3=>Aj (Al X.prog X.w) X.A (newFunctionEnv scope X.env.globals (uC X.env.cells scope.names []) [] X.env.qual none .none (some X.env)) (λt s4=>
   codeAny (Al X.prog X.w) X.A (.compStart (.ListComp elt [⟨tg,iter,ifs,0⟩] scope pos) 0 (.ref it) acc {t with scope:=relabel scope X.env}) (RR acc t.locals) s4) E s3) E s2:=by
 refine yb8 (wpAny_newFunctionEnv S.nocell (by intro y hy;simp at hy) (λh1 k h=>?_) S.kind);dsimp only at k h ⊢;generalize F:s2.heap.push {cls:=.type "list",dict:=none,data:=.seq ([]:List Ab).toArray}=HH at k h ⊢;have U:HH.objs.size=s2.heap.objs.size+1:=by rw[<-F,z81]
 have M:s2.heap.objs.size≠HH.objs.size:=by rw[U];exact z30 (z64 _)
 have old:∀b o,s2.heap.get? b=some o->h1.get? b=some o:=λb o e=>h.extBut b o (by rw[U];exact z30 (yg4 (z07 e))) (zZ4 _ (F▸zZ4 _ e));have L:=h.extBut _ _ M (zZ4 _ (F▸z08 _ rfl));obtain⟨W,⟨m0,w0⟩,turn⟩:=hW s2.heap.objs.size Z.fresh;generalize b5:HH.objs.size=C at k h U M ⊢;have ho:∀b∈fp,∃o,s2.heap.get? b=some o:=λb hb=>let⟨o,e,_⟩:=T.obj 0 _ H b hb;⟨o,e⟩;generalize f:s2.heap.objs.size=acc at *;have loop:∀s3:Ad,s3={s2 with heap:=h1,toks:=s2.toks+([]:List (Str×Ab)).length}->
   codeAny (Al X.prog X.w) X.A (.compLoop (.ListComp elt [⟨tg,iter,ifs,0⟩] scope pos) 0 (.ref it) (.ref acc) (X.comp N scope C s2 c fp).env) (RR (.ref acc) C) s3:=by
  rintro s3 rfl;have I3:Inv (X.comp N scope C s2 c fp) [] (wG imp B) (upd c acc (.lst [])) {s2 with heap:=h1,toks:=s2.toks+([]:List (Str×Ab)).length}:=
   aY Z S f2 ho f.symm (by rw[U,f]) old k L
  have b4:∀b∈fp,upd c acc (.lst []) b=none:=λb hb=>by
   obtain⟨o,e⟩:=ho b hb;rw[zd (by rw[<-f];exact z30 (z07 e))];exact(f2 b hb).1
  have l:∀{H':Hp},(∀b∈fp,H' b=none)->∀b∈fp,xg (X.comp N scope C s2 c fp) [] H' b:=λhn b hb=>by
   obtain⟨e1,e2⟩:=I3.ok.exf b hb;exact⟨hn b hb,e1,I3.ok.exfs b hb,.inl hb,e2,λp hp=>absurd (show p∈([]:List (Ae×Obj))from hp) (by simp)⟩
  refine pO (λn s'=>∃i ys q H',Inv (X.comp N scope C s2 c fp) [] q H' s'/\tn i s'.heap/\(∀b∈fp,H' b=none)/\W i n ys q H') ?_ m0
   ⟨0,[],_,_,I3,T.keep _ _ _ H λb _ o e=>old b o e,b4,w0⟩
  rintro n s4 ⟨i,ys,q,H4,I4,O,R,w4⟩;rcases turn i n ys q H4 w4 with⟨stop,qn⟩|⟨go,NN,hN,step⟩
  .refine z60 (T.done (X.comp N scope C s2 c fp) rfl rfl rfl hc i [] s4 q H4 (λ_ _=>False) I4 (l R) O stop) (λr s5 a3=>?_) λ_ _ z=>z;obtain⟨hr,I5⟩:=a3;subst hr;obtain⟨m5,a2,_⟩:=id I5.loc;exact b2 acc C H4 s5 m5 (fX Z f2 I5) a2 (Z.fpOk (by rw[U,f];exact ya1 _) I5.free) qn
  .refine z60 (T.item (X.comp N scope C s2 c fp) rfl rfl rfl hc i [] s4 q H4 (λ_ _=>False) I4 (l R) O go) (λr s5 b0=>?_) λ_ _ z=>z;obtain⟨u,hr,h5⟩:=b0;subst hr;refine z60 h5 (λ_ s6 b3=>?_) λ_ _ z=>z;obtain⟨x,H6,I6,r6,y6,G,a4⟩:=b3;refine z60 (hg C s2 c fp _ s6 q H6 x u _ (I6.pinned (l a4) (T.obj _ _ G)) r6 (step x H6 y6)) (λ_ s7 b1=>?_) λ_ _ z=>z;obtain⟨j,H7,I7,q7⟩:=b1;refine z60 (ht C s2 c fp _ s7 j H7 _ I7 q7) (λok s8 a6=>?_) λ_ _ z=>z;obtain⟨H8,I8,q8⟩:=a6;have again:∀{s:List V} {D:Hp} {I:Ad},Inv (X.comp N scope C s2 c fp) ([]++qc fp s6.heap) j D I->NN s j D->∃m,m<n/\∃i ys q H',Inv (X.comp N scope C s2 c fp) [] q H' I/\tn i I.heap/\(∀b∈fp,H' b=none)/\W i m ys q H':=λ{s D I} P n9=>by
    obtain⟨m',hm,w9⟩:=hN s j D n9;refine⟨m',hm,i+1,s,j,D,P.unpinned,T.keep _ _ _ G λb hb o e=>(P.pin (b,o) (z43 _ (z43 _ (wA hb e)))).1,λb hb=>?_,w9⟩;obtain⟨o,e,d⟩:=T.obj _ _ G b hb;exact(P.pin (b,o) (z43 _ (z43 _ (wA hb e)))).2.1
   cases ok with
   |false=>
    have a8:NN ys j H8:=by
     have z:=q8;rw[if_neg z32]at z;exact z
    rw[if_neg z32];exact again I8 a8
   |true=>
    rw[if_pos rfl]at q8 ⊢;refine z60 (he C s2 c fp _ s8 j H8 _ I8 q8) (λv I a1=>?_) λ_ _ z=>z;obtain⟨y,D,P,r9,a9,z9,q9⟩:=a1;refine z60 (qE (X:=X.comp N scope C s2 c fp) _ I j D (.ref acc) [y] (.ref acc) [v] (λ_ Y=>Y=upd D acc (.lst (ys++[y]))) P rfl (.cons r9 .nil) ⟨acc,ys,y,rfl,rfl,a9,z9,rfl⟩) (λ_ b6 a5=>?_) λ_ _ z=>z;obtain⟨_,Y,a7,_,a0⟩:=a5;subst a0;exact again a7 q9
 exact codeAny_compStart_list (loop _ rfl) (T.self X.A 0 _ _ _ (T.keep _ _ _ H λb _ o e=>old b o e) (loop _ rfl))
def zt3 (i:X.calm=true)(S:zP X.N X.env.scope N imp scope)(hi:PI X tg iter wi)(hg:∀C s2 c fp,PG (X.comp N scope C s2 c fp) tg g)(t:∀C s2 c fp,ve (X.comp N scope C s2 c fp) ifs tt)
  (he:∀C s2 c fp,PE (X.comp N scope C s2 c fp) elt te) (p:∀x,foldedSetIterable iter X.env x=pure x:=by intro _;rfl):
  PE X (.ListComp elt [⟨tg,iter,ifs,0⟩] scope pos) (ze5 wi imp g tt te):=by
 intro pins s B H Q I h;rw[eval_ListComp];refine wpAny_comprehension_free rfl p (vA (vR I S)) S.kind S.locs (thn (hi pins s B H _ I h) λv s1 h1=>thn h1 λn s2 h2=>?_);obtain⟨it,fp,tn,J,c,e,u,T,d,f2,hW⟩:=h2;subst e;refine rC i S hg t he u T d f2 hW λa C H' s' m j hn f q=>⟨m,hn,λh' r=>?_⟩;obtain⟨k,g1,g2,g3,w,l⟩:=f;exact⟨.ref a,H',j.turned (λb o hb e=>(r.2 b hb).trans e) k g1 g3 w l,rfl,q⟩
def zc0 {i:Nat}{x:Str}{px:Pos}{c:Pos}(K:X.calm=true)(S:zP X.N X.env.scope N imp scope)(hi:PI X tg iter wi)(hg:∀C s2 d fp,PG (X.comp N scope C s2 d fp) tg g)(L:∀C s2 d fp,ve (X.comp N scope C s2 d fp) ifs tt)
  (he:∀C s2 d fp,PE (X.comp N scope C s2 d fp) elt te) (E:X.N.Nodup) (F:X.N[i]?=some x) (y:Loc X.env.scope x) (j:swapsWith (.ListComp elt [⟨tg,iter,ifs,0⟩] scope pos) (some (.Name x px)) c.line X.env=pure true:=by rfl)
  (hf:X.fn x=true\/X.env.scope.names.lookup x=some .local:=by first|exact .inl rfl|exact .inr rfl|assumption) (A:∀x,foldedSetIterable iter X.env x=pure x:=by intro _;rfl):
  PS X (.Assign [.Name x px] (.ListComp elt [⟨tg,iter,ifs,0⟩] scope pos) c) (zC4 (ze5 wi imp g tt te) (pd i)):=by
 intro pins s B H D I h;rw[exec_Assign_Name_used _ _ _ _ j];refine zZ3 (wpAny_standAt (zZ3 ?_));refine zZ3 (z60 (wpAny_comprehension_free rfl A (vA (vR I S)) S.kind S.locs (thn (hi pins s B H _ I h) λv s1 h1=>thn h1 λz s2 h2=>?_))
  (λ_ s' hq=>z02 (z02 hq)) λ_ _ e=>e)
 obtain⟨it,fp,tn,J,d,e,M,T,k,f2,hW⟩:=h2;subst e;refine rC K S hg L he M T k f2 hW λa C H' s' m t hn f q=>?_;obtain⟨u,g1,g2,g3,r,w⟩:=f;refine wpAny_assign_Name (pe t E F y (show RelV (.ref a) (.ref a)from rfl) (λs4 O n=>?_) hf);obtain⟨ad,G,had⟩:=n;have p:C≠ad:=by
  rcases had with e|e
  .rw[e];exact g1
  .exact(r x ad e).symm
 exact⟨m,hn.sameBut G p,λh' l=>⟨_,H',O.turned (λb o hb e=>(l.2 b hb).trans e) u g1 g3 r w,q⟩⟩
end
mutual
inductive DV (H:Hp):V->Aa->Prop where
 |non:DV H .non .none
 |bl (b:Bool):DV H (.bl b) (.bool b)
 |int (i:Int):DV H (.int i) (.int i)
 |str (x:Str):DV H (.str x) (.str x)
 |lst {a:Ae}{xs:List V}{ds:List Aa}:H a=some (.lst xs)->DVs H xs ds->DV H (.ref a) (.list ds)
 |tup {a:Ae}{xs:List V}{ds:List Aa}:H a=some (.tup xs)->DVs H xs ds->DV H (.ref a) (.tuple ds)
inductive DVs (H:Hp):List V->List Aa->Prop where
 |nil:DVs H [] []
 |cons {x:V}{xs:List V}{d:Aa}{ds:List Aa}:DV H x d->DVs H xs ds->DVs H (x::xs) (d::ds)
end
def zF0 {H:Hp}{m1:V->Aa->Prop}{m2:List V->List Aa->Prop}(f:m1 .non .none)(l:∀b,m1 (.bl b) (.bool b))(g:∀i,m1 (.int i) (.int i))(j:∀x,m1 (.str x) (.str x))
  (o:∀{a:Ae} {xs:List V} {ds:List Aa},H a=some (.lst xs)->m2 xs ds->m1 (.ref a) (.list ds)) (p:∀{a:Ae} {xs:List V} {ds:List Aa},H a=some (.tup xs)->m2 xs ds->m1 (.ref a) (.tuple ds)) (e:m2 [] []) (r:∀{x:V} {xs:List V} {d:Aa} {ds:List Aa},m1 x d->m2 xs ds->m2 (x::xs) (d::ds)):
  (∀x d,DV H x d->m1 x d)/\∀xs ds,DVs H xs ds->m2 xs ds:=by
 let n:=λx d (_:DV H x d)=>m1 x d
 let M2:=λx d (_:DVs H x d)=>m2 x d
 have k:=λ{a} {xs} {ds} (q:H a=some (.lst xs)) (_:DVs H xs ds) (z:m2 xs ds)=>o q z;have c:=λ{a} {xs} {ds} (q:H a=some (.tup xs)) (_:DVs H xs ds) (z:m2 xs ds)=>p q z;have m:=λ{x} {xs} {d} {ds} (_:DV H x d) (_:DVs H xs ds) (y:m1 x d) (z:m2 xs ds)=>r y z;exact⟨λ_ _ h=>@DV.rec H n M2 f l g j k c e m _ _ h,λ_ _ h=>@DVs.rec H n M2 f l g j k c e m _ _ h⟩
def DVs.ind {H:Hp}{motive:(xs:List V)->(ds:List Aa)->DVs H xs ds->Prop}(nil:motive [] [] .nil)(cons:∀{x:V}{xs:List V}{d:Aa}{ds:List Aa} (a:DV H x d) (r:DVs H xs ds),motive xs ds r->motive (x::xs) (d::ds) (.cons a r)){xs:List V}{ds:List Aa}(h:DVs H xs ds):motive xs ds h:=
 ((zF0 (m2:=λxs ds=>∃h:DVs H xs ds,motive xs ds h) .non .bl .int .str (λq z=>.lst q z.1) (λq z=>.tup q z.1) ⟨.nil,nil⟩ (λa z=>⟨.cons a z.1,cons a z.1 z.2⟩)).2 _ _ h).2
section
variable {X:Cx}{pins:List (Ae×Obj)}{B:St}{H:Hp}{s:Ad}
def zo9 (I:Inv X pins B H s):(∀x d,DV H x d->∀u,RelV x u->∃as,Reads s.heap u d as)/\∀xs ds,DVs H xs ds->∀us,Vals xs us->∃as,ReadsAll s.heap us ds as:=by
 refine zF0 ?_ ?_ ?_ ?_ ?_ ?_ ?_ ?_
 .intro u r;cases(r);exact⟨_,.none⟩
 .intro b u r;cases(r);exact⟨_,.bool b⟩
 .intro i u r;obtain⟨t,rfl⟩:=(r);exact⟨_,.int i t⟩
 .intro x u r;obtain⟨t,rfl⟩:=(r);exact⟨_,.str x t⟩
 .intro a xs ds hq c u r;cases(r);obtain⟨j,g,p,m⟩:=I.list (SqL.of hq);obtain⟨o,k,f,n,hd⟩:=p.isList;obtain⟨as,e⟩:=c _ g;exact⟨_,.list k f hd (by simpa using e)⟩
 .intro a xs ds hq c u r;cases(r);obtain⟨j,g,p,m⟩:=I.tuple (SqT.of hq);obtain⟨o,k,f,n,hd⟩:=p;obtain⟨as,e⟩:=c _ g;exact⟨_,.tuple k f hd (by simpa using e)⟩
 .intro us r;cases r;exact⟨_,.nil⟩
 .intro x xs d ds h c us r;cases r with
  |cons r rs=>
   obtain⟨as,e⟩:=h _ r;obtain⟨bs,l⟩:=c _ rs;exact⟨_,.cons e l⟩
def DV.reads (I:Inv X pins B H s){x:V}{d:Aa}{u:Ab}(h:DV H x d)(r:RelV x u):∃as,Reads s.heap u d as:=(zo9 I).1 _ _ h _ r
end
def cS {H H':Hp}(e:zz H H'):(∀x d,DV H x d->DV H' x d)/\∀xs ds,DVs H xs ds->DVs H' xs ds:=zF0 .non .bl .int .str (λq=>.lst (e _ _ q)) (λq=>.tup (e _ _ q)) .nil .cons
def DV.same {H H':Hp}(e:zz H H'){x:V}{d:Aa}(h:DV H x d):DV H' x d:=(cS e).1 _ _ h
def DVs.same {H H':Hp}(e:zz H H'){xs:List V}{ds:List Aa}(h:DVs H xs ds):DVs H' xs ds:=(cS e).2 _ _ h
theorem DVs.length {H:Hp}{xs:List V}{ds:List Aa}(h:DVs H xs ds):xs.length=ds.length:=h.ind (motive:=λxs ds _=>xs.length=ds.length) rfl λ_ _ z=>congrArg (·+1) z
noncomputable def tyD :Aa->String
 |.none=>"NoneType"
 |.bool _=>"bool"
 |.int _=>"int"
 |.str _=>"str"
 |.list _=>"list"
 |.tuple _=>"tuple"
 |.dict _=>"dict"
theorem DV.ty {K:Ac}{H:Hp}{x:V}{d:Aa}(h:DV H x d):uD K H x (.type (tyD d)):=by
 cases h with
 |non=>exact .non
 |bl b=>exact .bl b
 |int i=>exact .int i
 |str x=>exact .str x
 |lst e _=>exact .lst e
 |tup e _=>exact .tup e
noncomputable def isInt :Aa->Bool
 |.int _=>true
 |.bool _=>true
 |_=>false
def isBool :Aa->Bool
 |.bool _=>true
 |_=>false
def isStr :Aa->Bool
 |.str _=>true
 |_=>false
def isList :Aa->Bool
 |.list _=>true
 |_=>false
def pW :Aa->Bool
 |.tuple _=>true
 |_=>false
noncomputable def zn4 (T:String)(d:Aa):Option Bool:=
 if T="int" then some (isInt d)else if T="bool" then some (isBool d)else if T="str" then some (isStr d)else if T="list" then some (isList d)else if T="tuple" then some (pW d)else none
noncomputable def zB3 (t T:String):Option Bool:=if(Value.type t == Value.type T)=true then some true else if PySem.W.kitMeta T=true then(fastBuiltinMro t).map (·.contains (Value.type T))else none
def aP (K:Ac)(t T:String):PySem.W.kitOne K (.type t) (.type T)=zB3 t T:=rfl
def zd3 :(["NoneType","bool","int","str","list","tuple"].all λt=>["int","bool","str","list","tuple"].all λT=>
  zB3 t T == some (if T="int" then t == "int"||t == "bool" else t == T))=true:=by decide +kernel
def zQ3 (K:Ac){H:Hp}{x:V}{d:Aa}(h:DV H x d){T:String}{b:Bool}(e:zn4 T d=some b):PySem.W.kitOne K (.type (tyD d)) (.type T)=some b:=by
 rw[aP];have key:∀t∈["NoneType","bool","int","str","list","tuple"],∀T∈["int","bool","str","list","tuple"],zB3 t T=some (if T="int" then t == "int"||t == "bool" else t == T):=λt f T c=>
  eq_of_beq (z79.mp (z79.mp zd3 t f) T c)
 have hd:tyD d∈["NoneType","bool","int","str","list","tuple"]:=by cases h<;>simp[tyD]
 unfold zn4 at e;split at e
 .rename_i a;subst a;rw[key _ hd "int" (by decide)];cases e;cases h<;>rfl
 .split at e
  .rename_i a;subst a;rw[key _ hd "bool" (by decide)];cases e;cases h<;>rfl
  .split at e
   .rename_i a;subst a;rw[key _ hd "str" (by decide)];cases e;cases h<;>rfl
   .split at e
    .rename_i a;subst a;rw[key _ hd "list" (by decide)];cases e;cases h<;>rfl
    .split at e
     .rename_i a;subst a;rw[key _ hd "tuple" (by decide)];cases e;cases h<;>rfl
     .cases e
section
variable {X:Cx}
def zN7 :R2:=λx y H Q=>∃d e,DV H x d/\DV H y e/\SeqAt.shaped d=true/\SeqAt.shaped e=true/\Q (.bl (PyData.eqv d e)) H
def zS6 :R2:=λx y H Q=>∃d e,DV H x d/\DV H y e/\SeqAt.shaped d=true/\SeqAt.shaped e=true/\Q (.bl (!PyData.eqv d e)) H
def zD8 (c:X.A.units+64<cLine):OpR X (compareOp .Eq) zN7:=by
 intro pins s B H x y v u Q I j g h;obtain⟨d,e,hd,he,f,i,q⟩:=h;obtain⟨as,a⟩:=hd.reads I j;obtain⟨bs,b⟩:=he.reads I g;exact SeqAt.compareEq_shaped a b f i c ⟨.bl _,H,I,rfl,q⟩
def zH7 (c:X.A.units+64<cLine):OpR X (compareOp .NotEq) zS6:=by
 intro pins s B H x y v u Q I j g h;obtain⟨d,e,hd,he,f,i,q⟩:=h;obtain⟨as,a⟩:=hd.reads I j;obtain⟨bs,b⟩:=he.reads I g;exact SeqAt.compareNe_shaped a b f i c ⟨.bl _,H,I,rfl,q⟩
def zc8 :yt X (.builtin "isinstance") (λxs H Q=>∃x T t b,xs=[x,.ty T]/\uD X.K H x t/\PySem.W.kitOne X.K t (.type T)=some b/\Q (.bl b) H):=by
 intro pins s B H xs us Q I r h;obtain⟨x,T,t,b,rfl,ty,e,q⟩:=h;obtain⟨u,v,rfl,d,a⟩:=Vals.two r;cases(a);exact eO I d ty e λc=>⟨.bl b,H,I.tok c,rfl,q⟩
def gR :yt X (.builtin "isinstance") (λxs H Q=>∃x T d b,xs=[x,.ty T]/\DV H x d/\zn4 T d=some b/\Q (.bl b) H):=by
 intro pins s B H xs us Q I r h;obtain⟨x,T,d,b,e,hd,a,q⟩:=h;exact zc8 pins s B H xs us Q I r ⟨x,T,_,b,e,hd.ty,zQ3 X.K hd a,q⟩
def zv4 (i j:Int):Prop:=0<j/\j.natAbs.log2<9000
def uz :OpR X (binaryOp .FloorDiv) (rI zv4 λi j=>.int (i / j)):=opI λi j _ _ _ _ _ a q=>by
 have h1:=a.1;refine floordiv_int (yi3 h1) ?_ (.inl (PyProof.noPylong_of_log2 a.2));rw[Int.fdiv_eq_ediv_of_nonneg _ (yd1 h1)];exact q
noncomputable abbrev big :Int:=115792089237316195423570985008687907853269984665640564039457584007913129639936
def log2_small {j:Int}(h0:0<j)(h:j<big):j.natAbs.log2<9000:=by
 have hn:j.natAbs≠0:=by lia
 have h2:j.natAbs<2 ^ 256:=by
  have e:2 ^ 256=115792089237316195423570985008687907853269984665640564039457584007913129639936:=by decide +kernel
  rw[e];unfold big at h
  lia
 have h3:=(Nat.log2_lt hn).mpr h2
 lia
def nh :yt X (.type "range") (λxs H Q=>∃i j:Int,xs=[.int i,.int j]/\∀p,H p=none->Q (.ref p) (upd H p (.rng i j))):=by
 intro pins s B H xs us Q I r h;obtain⟨i,j,rfl,q⟩:=h;obtain⟨u,v,rfl,⟨t,rfl⟩,⟨t',rfl⟩⟩:=Vals.two r;refine call_range_2 ⟨.ref s.heap.objs.size,_,I.laid (o:=.rng i j) (λb u e=>zZ4 _ e) (zZ8 _) ⟨t,t',s.toks,z08 _ rfl⟩,rfl,q _ (I.hok.fresh (zZ8 _))⟩
noncomputable def zo (lo:Int)(n:Nat):List Int:=(List.range n).map λi=>lo+(i:Nat)
def zb (lo:Int)(n:Nat):(zo lo n).length=n:=by simp[zo]
def zE {lo:Int}{n i:Nat}(h:i<n):(zo lo n)[i]?=some (lo+(i:Nat)):=by simp[zo,h]
def qu {lo:Int}{n:Nat}{acc:Array Ab}(h:ItemsOf (λi v=>∃t,v=.int (lo+i*1) t) acc n):Vals ((zo lo n).map V.int) acc.toList:=by
 obtain⟨h1,h2⟩:=h;have key:∀xs us,xs.length=us.length->(∀(i:Nat) x u,xs[i]?=some x->us[i]?=some u->RelV x u)->Vals xs us:=by
  intro xs
  induction xs with
  |nil=>intro us a _;cases us with|nil=>exact .nil|cons _ _=>simp at a
  |cons x xs g=>
   intro us a hr;cases us with
   |nil=>simp at a
   |cons u us=>exact .cons (hr 0 x u rfl rfl) (g us (by simpa using a) λi f d e1 b=>hr (i+1) f d (by simpa using e1) (by simpa using b))
 refine key _ _ ?_ λi x u e1 b=>?_
 .rw[zZ2,zb];simp[h1]
 .rw[z04]at e1;have hi:i<n:=by
   have:=(zZ6.mp b).1;simp[h1]at this;exact this
  rw[zE hi]at e1;have c:=z34 e1;subst c;obtain⟨t,e⟩:=h2 i u (by simpa using b);refine⟨t,?_⟩;rw[e,Int.mul_one]
def qr (d:X.calm=true):yt X (.type "list") (λxs H Q=>∃(p:Ae) (lo hi:Int),xs=[.ref p]/\H p=some (.rng lo hi)/\(-(2 ^ 62)<=lo/\lo<2 ^ 62/\-(2 ^ 62)<=hi/\hi<2 ^ 62)/\(hi-lo).toNat<=sizeLine/\(hi-lo).toNat<=2 ^ 24/\
  ∀l,H l=none->Q (.ref l) (upd H l (.lst ((zo lo (hi-lo).toNat).map V.int)))):=by
 intro pins s B H xs us Q I r h;obtain⟨p,lo,hi,rfl,j,⟨k,c,m,i⟩,n,b,q⟩:=h;obtain⟨u,rfl,f⟩:=Vals.one r;cases(f);obtain⟨t,t',v,e⟩:=(I.hok p _ j);refine call_list_range (I.ok.hd d) e (small_one k c m i) (by rw[rangeSize_one];split<;>lia) b λh' w a c' hk g hit=>?_;refine⟨.ref s.heap.objs.size,_,I.laid (o:=.lst ((zo lo (hi-lo).toNat).map V.int)) hk (zZ8 _) ⟨by rw[zZ2,zb];exact n,a.toList,c',qu hit,by simpa using g⟩,rfl,q _ (I.hok.fresh (zZ8 _))⟩
theorem nE {bs:List Bool}:∀{us:List Ab},Vals (bs.map V.bl) us->LSm.BoolsAre us bs:=by
 induction bs with
 |nil=>intro us h;cases h;exact .nil
 |cons b bs c=>
  intro us h;cases h with
  |cons r a=>
   cases(r);exact .cons b (c a)
end
def zi3 (X:Cx)(body:List An):TS:=λD B H=>∃t,PSs X body t/\t D B H
def zY {X:Cx}{body:List An}:PSs X body (zi3 X body):=λpins s B H D I ⟨t,p,q⟩=>p pins s B H D I q
def xq {X:Cx}{st:An}{rest:List An}{D:Ends}{B:St}{H:Hp}(M:St->Hp->Prop)(h1:∃t,PS X st t/\t {D with nx:=M} B H)(h2:∀a H',M a H'->∃t,PSs X rest t/\t D a H'):
  ∃t,PSs X (st::rest) t/\t D B H:=by
 obtain⟨t1,p1,f⟩:=h1;refine⟨λc a H'=>c=D/\a=B/\H'=H,?_,rfl,rfl,rfl⟩;intro pins s a H' c I h;obtain⟨e1,i,j⟩:=h;subst e1 i j;have step:PSs X (st::rest) (zL3 t1 λd σ2 b=>d=c/\M σ2 b):=zJ p1 λpins s σ2 b d k ⟨e,m⟩=>by
  subst e;obtain⟨l,p2,g⟩:=h2 σ2 b m;exact p2 pins s σ2 b _ k g
 refine step pins s _ _ _ I ?_;show t1 {c with nx:=λσ2 b=>c=c/\M σ2 b} _ _;have e:(λ(σ2:St) (b:Hp)=>c=c/\M σ2 b)=M:=by
  funext σ2 b
  exact propext ⟨λz=>z.2,λz=>⟨rfl,z⟩⟩
 rw[e];exact f
def fM {K:Ac}{a acc:Ae}{xs:List V}{g:TG}{tt:TT}{h:TE}{Q:VK}{d:St}{H0:Hp}(Pv:Nat->List V->St->Hp->Prop)(h0:Pv 0 [] d H0)(s:∀i ys b H,i<=xs.length->Pv i ys b H->SqL K H a xs)
  (t:∀i x ys b H,xs[i]?=some x->Pv i ys b H->g x b H λτ2 o=>tt τ2 o λc k=>
   if c=true then h τ2 k λy j=>j acc=some (.lst ys)/\ys.length<sizeLine/\Pv (i+1) (ys++[y]) τ2 (upd j acc (.lst (ys++[y])))else Pv (i+1) ys τ2 k)
  (hd:∀ys b H,Pv xs.length ys b H->Q (.ref acc) H):
  ou (Itl K a) acc g tt h d H0 Q:=by
 refine⟨λi m ys b H=>m=xs.length-i/\i<=xs.length/\Pv i ys b H,⟨xs.length,by simp,z21 _,h0⟩,?_⟩;rintro i m ys b H ⟨rfl,hi,p⟩;have q:=s i ys b H hi p;by_cases f:i<xs.length
 .refine .inr ⟨⟨xs,xs[i],q,by simp[f]⟩,Pv (i+1),λn r H' l=>⟨xs.length-(i+1),by omega,rfl,f,l⟩,λx H' y=>?_⟩;obtain⟨e,y⟩:=y;subst e;exact t i x ys b _ (y xs q) p
 .have e:i=xs.length:=by omega
  subst e;exact .inl ⟨⟨xs,q,zZ8 _⟩,hd ys b H p⟩
def at0 {L:Type}{x:L}{xs:List L}:atI (x::xs) 0=some x:=yn (j:=0) rfl
def ix0 {L:Type}{x:L}{xs:List L}:ixN (x::xs).length 0=some 0:=by
 unfold ixN;rw[if_pos (z90 _),if_pos (by rw[z28];omega)];rfl
def zW4 {L:Type}{x:L}{xs:List L}:seqIndex? 0 (x::xs).length=some 0:=(oG ix0).1
def dJ (ns:List Int)(lo hi:Option Int):∃ms:List Int,qt (ns.map V.int) lo hi=ms.map V.int/\ms.length<=ns.length:=by
 refine⟨(ns.drop (HT.sIx (ns.map V.int).length 0 lo)).take (HT.sIx (ns.map V.int).length (ns.map V.int).length hi-HT.sIx (ns.map V.int).length 0 lo),?_,?_⟩
 .unfold qt;rw[yh0,yk2]
 .rw[z49,z88];omega
structure yy (H:Hp)(t b c:Ae):Prop where
 ex:∃(n:Int) (bs cs:List Int),b≠c/\H t=some (.lst [.ref b,.ref c,.int n])/\H b=some (.lst (bs.map V.int))/\H c=some (.lst (cs.map V.int))/\bs.length<=63/\cs.length<=63
theorem iL {b c:Ae}{n:Int}(bs:List Int):HO.lst [.ref b,.ref c,.int n]≠HO.lst (bs.map V.int):=by
 intro z;injection z with z;cases bs with
 |nil=>cases z
 |cons x r=>cases z
def oi (t b:Ae)(H H':Hp):Prop:=∀a,a≠t->a≠b->H' a=H a
theorem oi.trans {t b:Ae}{H H1 c:Hp}(h:oi t b H H1)(k:oi t b H1 c):oi t b H c:=λa h1 h2=>(k a h1 h2).trans (h a h1 h2)
def kC (K:Ac):Sp:=λvs H Q _=>∃(a:Ae) (ns:List Int),vs=[.ref a]/\SqL K H a (ns.map V.int)/\ns.length<=63/\
 ∀(t b c:Ae) (H':Hp),yy H' t b c->H t=none->H b=none->H c=none->zz H H'->Q (.ref t) H'
def za2 :Sp:=λvs H Q _=>∃(t b c:Ae) (many:Int),vs=[.ref t,.int many]/\yy H t b c/\0<many/\many<big/\
 ∀(v:Int) (H':Hp),0<=v->v<many->yy H' t b c->oi t b H H'->Q (.int v) H'
def yy.free {H:Hp}{t b c l:Ae}(T:yy H t b c)(h:H l=none):l≠t/\l≠b/\l≠c:=by
 obtain⟨n,bs,cs,n1,e1,a,d,l1,l2⟩:=T.ex;exact⟨(zj e1 h).symm,(zj a h).symm,(zj d h).symm⟩
def yy.off {H H':Hp}{t b c:Ae}(T:yy H t b c)(h:∀a,a=t\/a=b\/a=c->H' a=H a):yy H' t b c:=by
 obtain⟨n,bs,cs,n1,e1,d,e,l1,l2⟩:=T.ex;exact⟨n,bs,cs,n1,by rw[h t (.inl rfl)];exact e1,by rw[h b (.inr (.inl rfl))];exact d,by rw[h c (.inr (.inr rfl))];exact e,l1,l2⟩
def cq {H:Hp}{t b c l:Ae}{o:HO}(T:yy H t b c)(h:l≠t/\l≠b/\l≠c):yy (upd H l o) t b c:=
 T.off λa ha=>zd (ha.elim (λe=>e▸h.1.symm) λha=>ha.elim (λe=>e▸h.2.1.symm) λe=>e▸h.2.2.symm)
def fu {H H':Hp}{t b c:Ae}(T:yy H t b c)(s:zz H H'):yy H' t b c:=by
 obtain⟨n,bs,cs,n1,e1,a,d,l1,l2⟩:=T.ex;exact⟨n,bs,cs,n1,s _ _ e1,s _ _ a,s _ _ d,l1,l2⟩
def zH {H:Hp}{p:Ae}{o:HO}(h:H p=none):zz H (upd H p o):=λb u e=>by rw[zd (zj e h)];exact e
def shaped_ints (ns:List Int):SeqAt.shaped (.list (ns.map PyData.int))=true/\SeqAt.shaped (.tuple (ns.map PyData.int))=true:=by
 have h1:PyData.canLayAll0 (ns.map PyData.int)=true:=by
  induction ns with
  |nil=>rfl
  |cons n r a=>simp only[z27,PyData.canLayAll0,PyData.canLay0,a,Bool.and_self]
 have h2:PyData.depthAll (ns.map PyData.int)=0:=by
  clear h1
  induction ns with
  |nil=>rfl
  |cons n r a=>simp only[z27,PyData.depthAll,PyData.depth,a,Nat.max_self]
 constructor<;>simp[SeqAt.shaped,PyData.canLay0,PyData.depth,h1,h2]
def yx :Ae:=(147:Nat)
def wB :Str:="cheapest_first.<locals>.<lambda>"
def qh (x:Ae):Prop:=x=yx
def tq (c:Ae):HO:=.ext λh=>h.CodeRec (.ref c) wB
structure TabAt (H:Hp):Prop where
 ex:∃ps:Array Ab,H yx=some (.tbl ps)/\TriplesOk ps.toList/\∀pos cv,codeAmong pos ps.toList=some cv->∃c,cv=.ref c/\H c=some (tq c)
def sS {H H':Hp}(T:TabAt H)(h:∀a o,(∀xs,o≠.lst xs)->H a=some o->H' a=some o):TabAt H':=by
 obtain⟨ps,e1,f,b⟩:=T.ex;refine⟨ps,h _ _ (λxs z=>nomatch z) e1,f,λpos cv d=>?_⟩;obtain⟨c,rfl,e⟩:=b pos cv d;exact⟨c,rfl,h _ _ (λxs z=>nomatch z) e⟩
def Plain (H:Hp)(l:Ae):Prop:=∀o,H l=some o->o≠tq l/\∀ps,o≠.tbl ps
def zp9 {H:Hp}{l:Ae}{o:HO}(T:TabAt H)(h:Plain H l):TabAt (upd H l o):=by
 obtain⟨ps,e1,b,e⟩:=T.ex;have n1:yx≠l:=λz=>by rw[z]at e1;exact(h _ e1).2 ps rfl
 refine⟨ps,by rw[zd n1];exact e1,b,λpos cv f=>?_⟩;obtain⟨c,rfl,a⟩:=e pos cv f;have d:c≠l:=λz=>by subst z;exact(h _ a).1 rfl
 exact⟨c,rfl,by rw[zd d];exact a⟩
def eY {ps:Array Ab}:∀ts,HO.tbl ps≠HO.tup ts:=λ_ z=>by cases z
def oC {H:Hp}{x:Ae}(T:TabAt H)(h:qh x):∃o,H x=some o/\(∀ts,o≠.tup ts)/\∀xs,o≠.lst xs:=by
 obtain⟨ps,e1,_⟩:=T.ex;exact⟨_,by rw[h];exact e1,eY,λ_ z=>by cases z⟩
def qD {H:Hp}{l:Ae}{xs:List V}(h:H l=some (.lst xs)):Plain H l:=λo e=>by
 rw[h]at e;cases e;exact⟨(λz=>by cases z),λps z=>by cases z⟩
def rY {H:Hp}{l:Ae}{xs:List (Key×V)}(h:H l=some (.dK xs)):Plain H l:=λo e=>by
 rw[h]at e;cases e;exact⟨(λz=>by cases z),λps z=>by cases z⟩
def fv {H:Hp}{l C dx:Ae}{fs:List (Str×V)}(h:H l=some (.ins C dx fs)):Plain H l:=λo e=>by
 rw[h]at e;cases e;exact⟨(λz=>by cases z),λps z=>by cases z⟩
def nF {H:Hp}{l:Ae}(T:TabAt H)(h:H l=none):¬qh l:=λz=>by
 obtain⟨o,e,_⟩:=oC T z;rw[h]at e;cases e
def zk5 {H H':Hp}{t b:Ae}{xs ys:List V}(T:TabAt H)(d:H t=some (.lst xs))(hb:H b=some (.lst ys))(off:oi t b H H'):TabAt H':=sS T λa o no e=>by
 have n1:a≠t:=λz=>by rw[z,d]at e;cases e;exact no _ rfl
 have c:a≠b:=λz=>by rw[z,hb]at e;cases e;exact no _ rfl
 rw[off a n1 c];exact e
def aF {H H':Hp}(T:TabAt H)(h:zz H H'):TabAt H':=sS T λa o _ e=>h a o e
def nR (K:Ac):Sp:=λvs H Q _=>∃(a:Ae) (ns:List Int),vs=[.ref a]/\SqL K H a (ns.map V.int)/\ns.length<=63/\TabAt H/\∀H',Q (.bl true) H'
structure zJ7 (mg:Str->Option Ab):Prop where
 abs:mg "abs"=none
 list:mg "list"=none
 len:mg "len"=none
structure zS (n:Nat)(d:Aa):Prop where
 shw:d.showable=true
 nod:d.hasDict=false
 dep:d.depth<=8
 len:d.shown.length<=n
 lay:d.canLay0=true
def zS.mono {m n:Nat}{d:Aa}(h:zS m d)(e:m<=n):zS n d:=⟨h.shw,h.nod,h.dep,z05 h.len e,h.lay⟩
theorem tu :∀(ts:List Str) (k:Nat) (acc:Str),(textFrom k acc ts).length<=acc.length+piled ts
 |[],_,acc=>by rw[piled_nil];exact zZ8 _
 |t::r,k,acc=>by
  have h:=tu r (k+1) (acc++(if k > 0 then ", " else "":String)++t);rw[piled_cons];have a:(Str.ofString (if k > 0 then ", " else "":String)).length<=2:=by
   split
   .exact z26 rfl
   .exact z21 _
  have b:=yh1 (acc++Str.ofString (if k > 0 then ", " else "":String)) t;have c:=yh1 acc (Str.ofString (if k > 0 then ", " else "":String));show(textFrom (k+1) (acc++Str.ofString (if k > 0 then ", " else "":String)++t) r).length<=_
  lia
def mw (ts:List Str):(listText ts).length<=piled ts+2:=by
 unfold listText;rw[yh1];have h:=tu ts 0 (Str.ofString "[");have e1:(Str.ofString "[").length=1:=rfl;have a:(Str.ofString "]").length=1:=rfl
 lia
theorem pT (ts:List Str):(tupleText ts).length<=piled ts+3:=by
 cases ts with
 |nil=>decide +kernel
 |cons t r=>
  have h:=join_length_add (t::r) (by simp);unfold tupleText;rw[yh1,yh1];have e1:(Str.ofString "(").length=1:=rfl;have a:(Str.ofString (if(t::r).length == 1 then ",)" else ")":String)).length<=2:=by
   split
   .exact z26 rfl
   .exact z58 (show 1<2 by decide)
  lia
theorem wQ {n:Nat}:∀(ds:List Aa),(∀d∈ds,zS n d)->piled (PyData.shownAll ds)<=ds.length*(n+2)
 |[],_=>z21 _
 |d::r,h=>by
  have h1:=(h d z03).len;have h2:=wQ r λe he=>h e (z01 _ he);show piled (d.shown::PyData.shownAll r)<=_;rw[piled_cons,z28,Nat.succ_mul]
  lia
structure ye (n:Nat)(ds:List Aa):Prop where
 all:∀d∈ds,zS n d
 dep:∀d∈ds,d.depth<=7
theorem ye.parts {n:Nat}:∀{ds:List Aa},ye n ds->PyData.showableAll ds=true/\PyData.hasDictAll ds=false/\PyData.depthAll ds<=7/\PyData.canLayAll0 ds=true
 |[],_=>⟨rfl,rfl,z21 _,rfl⟩
 |d::r,h=>by
  obtain⟨a,b,c,e⟩:=ye.parts ⟨λx f=>h.all x (z01 _ f),λx f=>h.dep x (z01 _ f)⟩;have hd:=h.all d z03;refine⟨?_,?_,?_,?_⟩
  .simp only[PyData.showableAll,hd.shw,a,Bool.and_self]
  .simp only[PyData.hasDictAll,hd.nod,b,Bool.or_self]
  .simp only[PyData.depthAll];exact zT1 (h.dep d z03) c
  .simp only[PyData.canLayAll0,hd.lay,e,Bool.and_self]
theorem zS.list {n m:Nat}{ds:List Aa}(h:ye n ds)(e:ds.length*(n+2)+2<=m):zS m (.list ds):=by
 obtain⟨a,b,c,f⟩:=h.parts;refine⟨by simp only[PyData.showable,a],by simp only[PyData.hasDict,b],by simp only[PyData.depth];exact zx3 c,?_,by simp only[PyData.canLay0,f]⟩;exact zz0 e (mw (PyData.shownAll ds)) (wQ ds h.all)
theorem zS.tuple {n m:Nat}{ds:List Aa}(h:ye n ds)(e:ds.length*(n+2)+3<=m):zS m (.tuple ds):=by
 obtain⟨a,b,c,f⟩:=h.parts;refine⟨by simp only[PyData.showable,a],by simp only[PyData.hasDict,b],by simp only[PyData.depth];exact zx3 c,?_,by simp only[PyData.canLay0,f]⟩;exact zz0 e (pT (PyData.shownAll ds)) (wQ ds h.all)
def rB {i:Int}(h0:-big<i)(h1:i<big):i.natAbs.log2<1920:=by
 by_cases hn:i.natAbs=0
 .rw[hn];decide
 .have h2:i.natAbs<2 ^ 256:=by
   have e:2 ^ 256=115792089237316195423570985008687907853269984665640564039457584007913129639936:=by decide +kernel
   rw[e];unfold big at h0 h1
   lia
  have h3:=(Nat.log2_lt hn).mpr h2
  lia
theorem zS.int {i:Int}(h0:-big<i)(h1:i<big):zS 2000 (.int i):=by
 have a:=rB h0 h1;refine⟨by simp only[PyData.showable,z55];exact a,rfl,z21 _,?_,rfl⟩;have:=int_text_len_1921 a;show(Str.ofString (toString i)).length<=2000
 lia
theorem zS.none :zS 2000 .none:=⟨rfl,rfl,z21 _,by decide +kernel,rfl⟩
theorem zS.bool (b:Bool):zS 2000 (.bool b):=⟨rfl,rfl,z21 _,by cases b<;>decide +kernel,rfl⟩
theorem zS.shaped {n:Nat}{d:Aa}(h:zS n d):SeqAt.shaped d=true:=by
 unfold SeqAt.shaped;rw[h.lay,z48,z55];have:=h.dep
 lia
section
variable {X:Cx}
theorem fA (hg:X.A.guards=some [])(k:X.A.units+64<cLine):yt X (.builtin "repr") (λxs H Q=>∃x d,xs=[x]/\DV H x d/\zS sizeLine d/\Q (.str d.shown) H):=by
 intro pins s B H xs us Q I r h;obtain⟨x,d,rfl,hd,N,q⟩:=h;obtain⟨u,rfl,f⟩:=Vals.one r;have c:∀{a:Ae},u=Value.ref a->Aj (Al X.prog X.w) X.A (call (.builtin "repr") [u]) (EP X pins B Q) X.xe s:=λ{a} e=>by
  obtain⟨as,j⟩:=hd.reads I f;subst e;refine repr_of_reads' j N.shw (PyData.noDict_hsm N.nod) hg (by have:=N.dep;lia) (λ_ _ e=>e) (λh' t l hk=>?_) N.len;exact⟨.str d.shown,H,I.kept hk,⟨t,rfl⟩,q⟩
 cases hd with
 |non=>cases(show u=Value.none from f);exact P.repr_of_none ⟨.str _,H,I.tok _,⟨_,rfl⟩,q⟩
 |bl b=>cases(show u=Value.bool b from f);exact P.repr_of_bool ⟨.str _,H,I.tok _,⟨_,rfl⟩,q⟩
 |int i=>
  obtain⟨t,rfl⟩:=(show ∃t,u=Value.int i t from f);have g:i.natAbs.log2<1920:=by
   have:=N.shw;simpa only[PyData.showable,z55]using this
  exact P.repr_of_int g ⟨.str _,H,I.tok _,⟨_,rfl⟩,q⟩
 |str y=>
  obtain⟨t,rfl⟩:=(show ∃t,u=Value.str y t from f);exact P.repr_of_str ⟨.str _,H,I.tok _,⟨_,rfl⟩,q⟩ N.len
 |lst e _=>exact c f
 |tup e _=>exact c f
def qV {s:Ad}{h':Ao}{o:Obj}{q:Ae}(hq:q=s.heap.objs.size)(hk:∀b x,b∉[q]->(s.heap.push o).get? b=some x->h'.get? b=some x):∀b x,s.heap.get? b=some x->h'.get? b=some x:=λb x e=>by
 refine hk b x (λhm=>?_) (zZ4 _ e);have a:b=q:=by simpa using hm
 rw[a,hq]at e;exact z56 _ (z07 e)
def eU (k:X.calm=true):yt X (.builtin "all") (λxs H Q=>∃(p:Ae) (bs:List Bool),xs=[.ref p]/\H p=some (.lst (bs.map V.bl))/\Q (.bl (bs.all id)) H):=by
 intro pins s B H xs us Q I r h;obtain⟨p,bs,rfl,d,q⟩:=h;obtain⟨u,rfl,n⟩:=Vals.one r;cases(n);obtain⟨a,m,pl,o⟩:=I.list (SqL.of d);have f:=nE m;have e:=pl.isList;refine call_all_walk (z93 e ⟨s.heap.objs.size,[s.heap.objs.size,p],[s.heap.objs.size],a.toArray.size,_,_,λi=>(bs[i]?).getD true,rfl,
  Walks.list (A:=X.A.in1) (I.ok.hd k) _ p (z30 (I.hok.lt d)) a.toArray,⟨⟨_,z08 _ rfl,rfl,rfl⟩,e.push _⟩,λi v s' t w l c=>?_,λh' x hk=>?_⟩)
 .obtain⟨b,j,rfl⟩:=f.get i v (by simpa using l);dsimp only at c;rw[j]at c;exact z50 c
 .have g:((List.range a.toArray.size).all λi=>(bs[i]?).getD true)=bs.all id:=by
   rw[z09,f.length];exact LSm.range_all bs
  rw[g];exact⟨.bl _,H,I.kept (qV rfl hk),rfl,q⟩
def fR (k:X.calm=true):yt X (.builtin "any") (λxs H Q=>∃(p:Ae) (bs:List Bool),xs=[.ref p]/\H p=some (.lst (bs.map V.bl))/\Q (.bl (bs.any id)) H):=by
 intro pins s B H xs us Q I r h;obtain⟨p,bs,rfl,d,q⟩:=h;obtain⟨u,rfl,n⟩:=Vals.one r;cases(n);obtain⟨a,m,pl,o⟩:=I.list (SqL.of d);have f:=nE m;have e:=pl.isList;refine call_any_walk (z93 e ⟨s.heap.objs.size,[s.heap.objs.size,p],[s.heap.objs.size],a.toArray.size,_,_,λi=>(bs[i]?).getD false,rfl,
  Walks.list (A:=X.A.in1) (I.ok.hd k) _ p (z30 (I.hok.lt d)) a.toArray,⟨⟨_,z08 _ rfl,rfl,rfl⟩,e.push _⟩,λi v s' t w l c=>?_,λh' x hk=>?_⟩)
 .obtain⟨b,j,rfl⟩:=f.get i v (by simpa using l);dsimp only at c;rw[j]at c;exact z50 c
 .have g:((List.range a.toArray.size).any λi=>(bs[i]?).getD false)=bs.any id:=by
   rw[z09,f.length];exact LSm.range_any bs
  rw[g];exact⟨.bl _,H,I.kept (qV rfl hk),rfl,q⟩
end
noncomputable def xi :Aa->Bool
 |.int _=>true
 |_=>false
noncomputable def yY (lo hi:Int):Aa->Bool
 |.int i=>decide (lo<=i)&&decide (i<=hi)
 |_=>false
noncomputable def pairD :Aa->Bool
 |.tuple ds=>decide ((ds.length:Int)=2)
 |_=>false
noncomputable abbrev eQ :Aa->Bool:=yY 0 1000000
noncomputable def zZ1 :Aa->Bool
 |.tuple [a,b]=>eQ a&&eQ b
 |_=>false
noncomputable def zJ9 :Aa->Option Int
 |.tuple [.int a,.int b]=>if eQ (.int a)&&eQ (.int b)then some (b-a)else none
 |_=>none
noncomputable def vb (d:Aa):Bool:=match zJ9 d with
 |some k=>decide (0<=k)
 |none=>false
def qF (d:Aa):xi d=(isInt d&&!isBool d):=by cases d<;>rfl
noncomputable def sub (p:Ae->Prop)(H:Hp):Hp:=λa=>open Classical in if p a then H a else none
def zc {p:Ae->Prop}{H:Hp}{a:Ae}{o:HO}(h:sub p H a=some o):p a/\H a=some o:=by
 unfold sub at h;split at h
 .rename_i b;exact⟨b,h⟩
 .cases h
def zy {p:Ae->Prop}{H:Hp}{a:Ae}{o:HO}(b:p a)(h:H a=some o):sub p H a=some o:=by
 unfold sub;rw[if_pos b];exact h
def zq {p q:Ae->Prop}{H H':Hp}(h:∀a o,p a->H a=some o->q a/\H' a=some o):zz (sub p H) (sub q H'):=λa o e=>by
 obtain⟨c,he⟩:=zc e;obtain⟨hq,b⟩:=h a o c he;exact zy hq b
def xD {p:Ae->Prop}{H:Hp}:zz (sub p H) H:=λ_ _ e=>(zc e).2
def ye.snoc {n:Nat}{ds:List Aa}{d:Aa}(h:ye n ds)(hd:zS n d)(a:d.depth<=7):ye n (ds++[d]):=
 ⟨λe he=>(z44.mp he).elim (h.all e) λz=>by rw[z06.mp z];exact hd,λe he=>(z44.mp he).elim (h.dep e) λz=>by rw[z06.mp z];exact a⟩
def ye.nil {n:Nat}:ye n []:=⟨λd hd=>by simp at hd,λd hd=>by simp at hd⟩
def ye.two {n:Nat}{d e:Aa}(hd:zS n d)(he:zS n e)(h1:d.depth<=7)(h2:e.depth<=7):ye n [d,e]:=(ye.nil.snoc hd h1).snoc he h2
section
variable {X:Cx}{e:Ak}{es:List Ak}
def uj (X:Cx)(e:Ak):TE:=λB H Q=>∃t,PE X e t/\t B H Q
def zf :PE X e (uj X e):=λpins s B H Q I a=>by obtain⟨t,p,q⟩:=a;exact p pins s B H Q I q
def zT9 (X:Cx)(e:Ak):TT:=λB H Q=>∃t,PT X e t/\t B H Q
def xv :PT X e (zT9 X e):=λpins s B H Q I a=>by obtain⟨t,p,q⟩:=a;exact p pins s B H Q I q
def zA8 (X:Cx)(es:List Ak):TA:=λB H Q=>∃t,PA X es t/\t B H Q
def yD :PA X es (zA8 X es):=λpos pins s B H Q I a=>by obtain⟨t,p,q⟩:=a;exact p pos pins s B H Q I q
end
noncomputable def xG :Key->Aa
 |.inl i=>.int i
 |.inr x=>.str x
def xcO (a C:Ae)(d:Option Ae):HO:=.ext λh=>∃o vs,h.get? a=some o/\o.cls=.ref C/\o.dict=d/\o.data=.fields vs
mutual
inductive AV (H:Hp):V->Aa->Prop where
 |non:AV H .non .none
 |bl (b:Bool):AV H (.bl b) (.bool b)
 |int (i:Int):AV H (.int i) (.int i)
 |str (x:Str):AV H (.str x) (.str x)
 |lst {a:Ae}{xs:List V}{ds:List Aa}:H a=some (.lst xs)->AVs H xs ds->AV H (.ref a) (.list ds)
 |tup {a:Ae}{xs:List V}{ds:List Aa}:H a=some (.tup xs)->AVs H xs ds->AV H (.ref a) (.tuple ds)
 |ins {a C dx:Ae}{fs:List (Str×V)}{ds:List (Aa×Aa)}:H a=some (.ins C dx fs)->AVf H fs ds->AV H (.ref a) (.dict ((.int (C:Nat),.none)::ds))
 |dk {a:Ae}{o:Obj}{kvs:List (Key×V)}{ds:List (Aa×Aa)}:H a=some (.frz o (.dK kvs))->AVk H kvs ds->AV H (.ref a) (.dict ((.none,.none)::ds))
 |dt {a:Ae}{o:Obj}{kvs:List (List Key×V)}{ds:List (Aa×Aa)}:H a=some (.frz o (.dT kvs))->AVt H kvs ds->AV H (.ref a) (.dict ((.none,.bool true)::ds))
 |xc {a C dx:Ae}{fs:List (Str×V)}{ds:List (Aa×Aa)}:H a=some (xcO a C (some dx))->H dx=some (.xd fs)->AVf H fs ds->AV H (.ref a) (.dict ((.int (C:Nat),.bool true)::ds))
 |xn {a C:Ae}:H a=some (xcO a C none)->AV H (.ref a) (.dict [(.int (C:Nat),.bool false)])
inductive AVs (H:Hp):List V->List Aa->Prop where
 |nil:AVs H [] []
 |cons {x:V}{xs:List V}{d:Aa}{ds:List Aa}:AV H x d->AVs H xs ds->AVs H (x::xs) (d::ds)
inductive AVf (H:Hp):List (Str×V)->List (Aa×Aa)->Prop where
 |nil:AVf H [] []
 |cons {f:Str}{x:V}{fs:List (Str×V)}{d:Aa}{ds:List (Aa×Aa)}:AV H x d->AVf H fs ds->AVf H ((f,x)::fs) ((.str f,d)::ds)
inductive AVk (H:Hp):List (Key×V)->List (Aa×Aa)->Prop where
 |nil:AVk H [] []
 |cons {k:Key}{x:V}{fs:List (Key×V)}{d:Aa}{ds:List (Aa×Aa)}:AV H x d->AVk H fs ds->AVk H ((k,x)::fs) ((xG k,d)::ds)
inductive AVt (H:Hp):List (List Key×V)->List (Aa×Aa)->Prop where
 |nil:AVt H [] []
 |cons {k:List Key}{x:V}{fs:List (List Key×V)}{d:Aa}{ds:List (Aa×Aa)}:AV H x d->AVt H fs ds->AVt H ((k,x)::fs) ((.tuple (k.map xG),d)::ds)
end
def fG {H:Hp}{m1:V->Aa->Prop}{m2:List V->List Aa->Prop}{m3:List (Str×V)->List (Aa×Aa)->Prop}{m4:List (Key×V)->List (Aa×Aa)->Prop}{m5:List (List Key×V)->List (Aa×Aa)->Prop}
  (A:m1 .non .none) (I:∀b,m1 (.bl b) (.bool b)) (E:∀i,m1 (.int i) (.int i)) (G:∀x,m1 (.str x) (.str x))
  (Q:∀{a xs ds},H a=some (.lst xs)->m2 xs ds->m1 (.ref a) (.list ds)) (R:∀{a xs ds},H a=some (.tup xs)->m2 xs ds->m1 (.ref a) (.tuple ds))
  (W:∀{a C dx fs ds},H a=some (.ins C dx fs)->m3 fs ds->m1 (.ref a) (.dict ((.int (C:Nat),.none)::ds))) (O:∀{a o kvs ds},H a=some (.frz o (.dK kvs))->m4 kvs ds->m1 (.ref a) (.dict ((.none,.none)::ds)))
  (U:∀{a o kvs ds},H a=some (.frz o (.dT kvs))->m5 kvs ds->m1 (.ref a) (.dict ((.none,.bool true)::ds))) (L:∀{a C dx fs ds},H a=some (xcO a C (some dx))->H dx=some (.xd fs)->m3 fs ds->m1 (.ref a) (.dict ((.int (C:Nat),.bool true)::ds)))
  (c:∀{a C},H a=some (xcO a C none)->m1 (.ref a) (.dict [(.int (C:Nat),.bool false)]))
  (u:m2 [] []) (T:∀{x xs d ds},m1 x d->m2 xs ds->m2 (x::xs) (d::ds)) (F:m3 [] []) (N:∀{f x fs d ds},m1 x d->m3 fs ds->m3 ((f,x)::fs) ((.str f,d)::ds))
  (m:m4 [] []) (S:∀{k x fs d ds},m1 x d->m4 fs ds->m4 ((k,x)::fs) ((xG k,d)::ds)) (w:m5 [] []) (P:∀{k x fs d ds},m1 x d->m5 fs ds->m5 ((k,x)::fs) ((.tuple (k.map xG),d)::ds)):
  (∀x d,AV H x d->m1 x d)/\(∀x d,AVs H x d->m2 x d)/\(∀x d,AVf H x d->m3 x d)/\(∀x d,AVk H x d->m4 x d)/\∀x d,AVt H x d->m5 x d:=by
 have n:=λ{a} {xs} {ds} (q:H a=some (.lst xs)) (_:AVs H xs ds) (z:m2 xs ds)=>Q q z;have g:=λ{a} {xs} {ds} (q:H a=some (.tup xs)) (_:AVs H xs ds) (z:m2 xs ds)=>R q z;have J:=λ{a C dx} {fs} {ds} (q:H a=some (.ins C dx fs)) (_:AVf H fs ds) (z:m3 fs ds)=>W q z;have j:=λ{a o} {fs} {ds} (q:H a=some (.frz o (.dK fs))) (_:AVk H fs ds) (z:m4 fs ds)=>O q z;have v:=λ{a o} {fs} {ds} (q:H a=some (.frz o (.dT fs))) (_:AVt H fs ds) (z:m5 fs ds)=>U q z;have e:=λ{a C dx} {fs} {ds} (q:H a=some (xcO a C (some dx))) (M:H dx=some (.xd fs)) (_:AVf H fs ds) (z:m3 fs ds)=>L q M z;have s:=λ{x} {xs} {d} {ds} (_:AV H x d) (_:AVs H xs ds) (y:m1 x d) (z:m2 xs ds)=>T y z;have t:=λ{f} {x} {fs} {d} {ds} (_:AV H x d) (_:AVf H fs ds) (y:m1 x d) (z:m3 fs ds)=>N (f:=f) y z;have D:=λ{k} {x} {fs} {d} {ds} (_:AV H x d) (_:AVk H fs ds) (y:m1 x d) (z:m4 fs ds)=>S (k:=k) y z;have l:=λ{k} {x} {fs} {d} {ds} (_:AV H x d) (_:AVt H fs ds) (y:m1 x d) (z:m5 fs ds)=>P (k:=k) y z
 let K:=λx d (_:AV H x d)=>m1 x d
 let M2:=λx d (_:AVs H x d)=>m2 x d
 let p:=λx d (_:AVf H x d)=>m3 x d
 let r:=λx d (_:AVk H x d)=>m4 x d
 let B:=λx d (_:AVt H x d)=>m5 x d
 exact⟨λ_ _ h=>@AV.rec H K M2 p r B A I E G n g J j v e c u s F t m D w l _ _ h,λ_ _ h=>@AVs.rec H K M2 p r B A I E G n g J j v e c u s F t m D w l _ _ h,λ_ _ h=>@AVf.rec H K M2 p r B A I E G n g J j v e c u s F t m D w l _ _ h,λ_ _ h=>@AVk.rec H K M2 p r B A I E G n g J j v e c u s F t m D w l _ _ h,λ_ _ h=>@AVt.rec H K M2 p r B A I E G n g J j v e c u s F t m D w l _ _ h⟩
def AVs.ind {H:Hp}{motive:(xs:List V)->(ds:List Aa)->AVs H xs ds->Prop}(nil:motive [] [] .nil)(cons:∀{x:V}{xs:List V}{d:Aa}{ds:List Aa} (a:AV H x d) (r:AVs H xs ds),motive xs ds r->motive (x::xs) (d::ds) (.cons a r)){xs:List V}{ds:List Aa}(h:AVs H xs ds):motive xs ds h:=
 ((fG (m2:=λxs ds=>∃h:AVs H xs ds,motive xs ds h) .non .bl .int .str (λq z=>.lst q z.1) (λq z=>.tup q z.1) .ins .dk .dt .xc .xn ⟨.nil,nil⟩ (λa z=>⟨.cons a z.1,cons a z.1 z.2⟩) .nil .cons .nil .cons .nil .cons).2.1 _ _ h).2
def AVf.ind {H:Hp}{motive:(xs:List (Str×V))->(ds:List (Aa×Aa))->AVf H xs ds->Prop}(nil:motive [] [] .nil)(cons:∀{f:Str}{x:V}{fs:List (Str×V)}{d:Aa}{ds:List (Aa×Aa)} (a:AV H x d) (r:AVf H fs ds),motive fs ds r->motive ((f,x)::fs) ((.str f,d)::ds) (.cons a r)){xs:List (Str×V)}{ds:List (Aa×Aa)}(h:AVf H xs ds):motive xs ds h:=
 ((fG (m3:=λxs ds=>∃h:AVf H xs ds,motive xs ds h) .non .bl .int .str .lst .tup (λq z=>.ins q z.1) .dk .dt (λq s z=>.xc q s z.1) .xn .nil .cons ⟨.nil,nil⟩ (λa z=>⟨.cons a z.1,cons a z.1 z.2⟩) .nil .cons .nil .cons).2.2.1 _ _ h).2
def AVk.ind {H:Hp}{motive:(xs:List (Key×V))->(ds:List (Aa×Aa))->AVk H xs ds->Prop}(nil:motive [] [] .nil)(cons:∀{k:Key}{x:V}{fs:List (Key×V)}{d:Aa}{ds:List (Aa×Aa)} (a:AV H x d) (r:AVk H fs ds),motive fs ds r->motive ((k,x)::fs) ((xG k,d)::ds) (.cons a r)){xs:List (Key×V)}{ds:List (Aa×Aa)}(h:AVk H xs ds):motive xs ds h:=
 ((fG (m4:=λxs ds=>∃h:AVk H xs ds,motive xs ds h) .non .bl .int .str .lst .tup .ins (λq z=>.dk q z.1) .dt .xc .xn .nil .cons .nil .cons ⟨.nil,nil⟩ (λa z=>⟨.cons a z.1,cons a z.1 z.2⟩) .nil .cons).2.2.2.1 _ _ h).2
def cx {H H':Hp}(e:zz H H'):(∀x d,AV H x d->AV H' x d)/\(∀x d,AVs H x d->AVs H' x d)/\(∀x d,AVf H x d->AVf H' x d)/\(∀x d,AVk H x d->AVk H' x d)/\∀x d,AVt H x d->AVt H' x d:=by refine fG .non .bl .int .str (λhq a=>.lst (e _ _ hq) a) (λhq a=>.tup (e _ _ hq) a) (λhq a=>.ins (e _ _ hq) a) (λhq a=>.dk (e _ _ hq) a) (λhq a=>.dt (e _ _ hq) a) (λhq hd a=>.xc (e _ _ hq) (e _ _ hd) a) (λhq=>.xn (e _ _ hq)) .nil .cons .nil .cons .nil .cons .nil .cons
def AV.same {H H':Hp}(e:zz H H'){x:V}{d:Aa}(h:AV H x d):AV H' x d:=(cx e).1 _ _ h
def AVs.same {H H':Hp}(e:zz H H'){xs:List V}{ds:List Aa}(h:AVs H xs ds):AVs H' xs ds:=(cx e).2.1 _ _ h
def AVk.same {H H':Hp}(e:zz H H'){fs:List (Key×V)}{ds:List (Aa×Aa)}(h:AVk H fs ds):AVk H' fs ds:=(cx e).2.2.2.1 _ _ h
def dv5 {H:Hp}:(∀x d,AV H x d->d.hasDict=false->DV H x d)/\(∀x d,AVs H x d->PyData.hasDictAll d=false->DVs H x d):=by
 have r:=fG (m1:=λx d=>d.hasDict=false->DV H x d) (m2:=λx d=>PyData.hasDictAll d=false->DVs H x d) (m3:=λ_ _=>True) (m4:=λ_ _=>True) (m5:=λ_ _=>True) (λ_=>.non) (λb _=>.bl b) (λi _=>.int i) (λx _=>.str x) (λhq a h=>.lst hq (a (by simpa only[PyData.hasDict]using h))) (λhq a h=>.tup hq (a (by simpa only[PyData.hasDict]using h))) (λ_ _ h=>by simp[PyData.hasDict]at h) (λ_ _ h=>by simp[PyData.hasDict]at h) (λ_ _ h=>by simp[PyData.hasDict]at h) (λ_ _ _ h=>by simp[PyData.hasDict]at h) (λ_ h=>by simp[PyData.hasDict]at h) (λ_=>.nil)
  (λh a e=>by
   simp only[PyData.hasDictAll,Bool.or_eq_false_iff]at e;exact .cons (h e.1) (a e.2)) trivial (λ_ _=>trivial) trivial (λ_ _=>trivial) trivial (λ_ _=>trivial)
 exact⟨r.1,r.2.1⟩
def AV.dv {H:Hp}{x:V}{d:Aa}(h:AV H x d)(e:d.hasDict=false):DV H x d:=dv5.1 _ _ h e
def AVs.dv {H:Hp}{xs:List V}{ds:List Aa}(h:AVs H xs ds)(e:PyData.hasDictAll ds=false):DVs H xs ds:=dv5.2 _ _ h e
theorem AVs.length {H:Hp}{xs:List V}{ds:List Aa}(h:AVs H xs ds):xs.length=ds.length:=h.ind (motive:=λxs ds _=>xs.length=ds.length) rfl λ_ _ z=>congrArg (·+1) z
def AVs.append {H:Hp}{xs ys:List V}{ds b:List Aa}(h:AVs H xs ds)(k:AVs H ys b):AVs H (xs++ys) (ds++b):=h.ind (motive:=λxs ds _=>AVs H (xs++ys) (ds++b)) k λa _ z=>.cons a z
theorem AVs.get {H:Hp}{xs:List V}{ds:List Aa}{i:Nat}{d:Aa}(h:AVs H xs ds)(e:ds[i]?=some d):∃x,xs[i]?=some x/\AV H x d:=by
 induction h using AVs.ind generalizing i with
 |nil=>simp at e
 |cons a _ b=>
  cases i with
  |zero=>exact⟨_,rfl,z34 e▸a⟩
  |succ i=>exact b e
theorem AVs.take {H:Hp}{xs:List V}{ds:List Aa}(n:Nat)(h:AVs H xs ds):AVs H (xs.take n) (ds.take n):=by
 induction h using AVs.ind generalizing n with
 |nil=>cases n<;>exact .nil
 |cons a _ b=>
  cases n with
  |zero=>exact .nil
  |succ n=>exact .cons a (b n)
theorem AVs.drop {H:Hp}{xs:List V}{ds:List Aa}(n:Nat)(h:AVs H xs ds):AVs H (xs.drop n) (ds.drop n):=by
 induction h using AVs.ind generalizing n with
 |nil=>cases n<;>exact .nil
 |cons a r b=>
  cases n with
  |zero=>exact .cons a r
  |succ n=>exact b n
theorem AVs.set {H:Hp}{x:V}{d:Aa}(a:AV H x d){xs:List V}{ds:List Aa}(i:Nat)(h:AVs H xs ds):AVs H (xs.set i x) (ds.set i d):=by
 induction h using AVs.ind generalizing i with
 |nil=>exact .nil
 |cons q r b=>
  cases i with
  |zero=>exact .cons a r
  |succ i=>exact .cons q (b i)
theorem AVs.atI {H:Hp}{xs:List V}{ds:List Aa}{i:Int}{d:Aa}(h:AVs H xs ds)(e:atI ds i=some d):∃x,L2.atI xs i=some x/\AV H x d:=by
 unfold L2.atI at e ⊢;rw[h.length];cases q:ixN ds.length i with
 |none=>rw[q]at e;cases e
 |some j=>
  rw[q]at e;exact h.get e
noncomputable def cutD (ds:List Aa)(lo hi:Option Int):List Aa:=(ds.drop (HT.sIx ds.length 0 lo)).take (HT.sIx ds.length ds.length hi-HT.sIx ds.length 0 lo)
def AVs.cut {H:Hp}{xs:List V}{ds:List Aa}(h:AVs H xs ds)(lo hi:Option Int):AVs H (qt xs lo hi) (cutD ds lo hi):=by
 unfold qt cutD;rw[h.length];exact(h.drop _).take _
mutual
noncomputable def noL :Aa->Bool
 |.list _=>false
 |.dict ((.none,_)::_)=>false
 |.dict kvs=>sE kvs
 |.tuple ds=>wY ds
 |_=>true
noncomputable def wY :List Aa->Bool
 |[]=>true
 |d::r=>noL d&&wY r
noncomputable def sE :List (Aa×Aa)->Bool
 |[]=>true
 |(_,d)::r=>noL d&&sE r
end
def Ob :HO->Prop
 |.lst _=>True
 |.dK _=>True
 |.frz _ _=>True
 |_=>False
def zM3 {H H':Hp}(e:∀a o,¬Ob o->H a=some o->H' a=some o):(∀x d,AV H x d->noL d=true->AV H' x d)/\(∀x d,AVs H x d->wY d=true->AVs H' x d)/\(∀x d,AVf H x d->sE d=true->AVf H' x d)/\(∀x d,AVk H x d->sE d=true->AVk H' x d):=by
 have r:=fG (m1:=λx d=>noL d=true->AV H' x d) (m2:=λx d=>wY d=true->AVs H' x d) (m3:=λx d=>sE d=true->AVf H' x d) (m4:=λx d=>sE d=true->AVk H' x d) (m5:=λ_ _=>True) (λ_=>.non) (λb _=>.bl b) (λi _=>.int i) (λx _=>.str x) (λ_ _ h=>by simp[L2.noL]at h) (λhq c h=>.tup (e _ _ (λz=>z) hq) (c (by simpa only[L2.noL]using h))) (λhq c h=>.ins (e _ _ (λz=>z) hq) (c (by simpa[L2.noL,L2.sE]using h))) (λ_ _ h=>by simp[L2.noL]at h) (λ_ _ h=>by simp[L2.noL]at h) (λhq hd c h=>.xc (e _ _ (λz=>z) hq) (e _ _ (λz=>z) hd) (c (by simpa[L2.noL,L2.sE]using h))) (λhq _=>.xn (e _ _ (λz=>z) hq)) (λ_=>.nil)
  (λh c q=>by
   simp only[L2.wY,z36]at q;exact .cons (h q.1) (c q.2)) (λ_=>.nil)
  (λh c q=>by
   simp only[L2.sE,z36]at q;exact .cons (h q.1) (c q.2)) (λ_=>.nil)
  (λh c q=>by
   simp only[L2.sE,z36]at q;exact .cons (h q.1) (c q.2)) trivial (λ_ _=>trivial)
 exact⟨r.1,r.2.1,r.2.2.1,r.2.2.2.1⟩
theorem AV.noL {H H':Hp}(e:∀a o,¬Ob o->H a=some o->H' a=some o){x:V}{d:Aa}(h:AV H x d)(q:L2.noL d=true):AV H' x d:=(zM3 e).1 _ _ h q
def AVs.noL {H H':Hp}(e:∀a o,¬Ob o->H a=some o->H' a=some o){xs:List V}{ds:List Aa}(h:AVs H xs ds)(q:wY ds=true):AVs H' xs ds:=(zM3 e).2.1 _ _ h q
structure Fr where
 H0:Hp
 O0:Ae->Prop
 tp:Option (Ae×Ae×Ae)
inductive A where
 |dat (d:Aa)
 |ow (c:Aa)
 |deep (d:Aa) (S:Ae->Prop)
 |tape
 |at(l:Ae)
 |exc (r:Fr) (q:Aa->Prop)
 |pin (l:Ae) (vs:List V) (ds:List Aa)
 |nst (l:Ae) (ls:List Ae) (dss:List (List Aa))
@[reducible] def A.own (ds:List Aa):A:=.ow (.list ds)
abbrev yW (ds:List (Aa×Aa)):Aa:=.dict ((.none,.none)::ds)
@[reducible] def A.dic (ds:List (Aa×Aa)):A:=.ow (yW ds)
abbrev Ev :=List (Option A)
def wJ (o:HO):Prop:=∀ts,o≠.tup ts
def yT {xs:List V}:wJ (.lst xs):=λ_ z=>by cases z
def Ob.notup {o:HO}(h:Ob o):wJ o:=λts z=>by subst z;exact h
def NT (F:Fr)(x:Ae):Prop:=(∀t b c,F.tp=some (t,b,c)->x≠t/\x≠b)/\¬qh x
def Kz (F:Fr)(H H':Hp):Prop:=∀x o,H x=some o->NT F x->H' x=some o
structure zK (F:Fr)(H:Hp):Prop where
 tab:TabAt H
 ot:∀x,qh x->F.O0 x
 all:∀t b c,F.tp=some (t,b,c)->yy H t b c/\F.O0 t/\F.O0 b/\F.O0 c
instance {F:Fr} {H:Hp}:CoeFun (zK F H) (λ_=>∀t b c,F.tp=some (t,b,c)->yy H t b c/\F.O0 t/\F.O0 b/\F.O0 c):=⟨zK.all⟩
def zK.to {F F':Fr}{H:Hp}(t:zK F H)(f:F'.tp=F.tp)(d:∀x,F.O0 x->F'.O0 x):zK F' H:=⟨t.tab,λx h=>d x (t.ot x h),λa b c e=>by
 obtain⟨h1,h2,h3,g⟩:=t a b c (f▸e);exact⟨h1,d _ h2,d _ h3,d _ g⟩⟩
def zK.re {F F':Fr}{H H':Hp}(t:zK F H)(t':zK F' H')(d:F'.tp=F.tp):zK F H':=⟨t'.tab,t.ot,λa b c e=>⟨(t' a b c (d▸e)).1,(t a b c e).2⟩⟩
theorem zK.upd {F:Fr}{H:Hp}{l:Ae}{o:HO}(t:zK F H)(h:∀a b c,F.tp=some (a,b,c)->l≠a/\l≠b/\l≠c)(d:Plain H l):zK F (upd H l o):=⟨zp9 t.tab d,t.ot,λa b c e=>⟨cq (t a b c e).1 (h a b c e),(t a b c e).2⟩⟩
def zK.updO {F:Fr}{H:Hp}{l:Ae}{o:HO}(t:zK F H)(h:¬F.O0 l)(d:Plain H l):zK F (L2.upd H l o):=t.upd (λa b c e=>⟨λz=>h (by rw[z];exact(t a b c e).2.1),λz=>h (by rw[z];exact(t a b c e).2.2.1),λz=>h (by rw[z];exact(t a b c e).2.2.2)⟩) d
def foot (s:Option V):A->Ae->Prop
 |.ow _,x=>s=some (.ref x)
 |.deep _ S,x=>S x
 |.nst l ls _,x=>x∈l::ls
 |_,_=>False
def Ow (F:Fr)(L:Ev)(B:St)(x:Ae):Prop:=F.O0 x\/∃(i:Nat) (a:A) (s:Option V),L[i]?=some (some a)/\B[i]?=some s/\foot s a x
noncomputable abbrev Gz (F:Fr)(L:Ev)(B:St)(H:Hp):Hp:=sub (λx=>¬Ow F L B x) H
noncomputable def nQ (S:Ae->Prop)(G H:Hp):Hp:=λx=>open Classical in if S x then H x else match G x with
 |some (.lst _)=>none
 |o=>o
def qR {S:Ae->Prop}{G a H H':Hp}(h:zz G a)(b:∀x o,S x->H x=some o->H' x=some o):zz (nQ S G H) (nQ S a H'):=λx o e=>by
 unfold nQ at e ⊢;by_cases z:S x
 .rw[if_pos z]at e ⊢;exact b x o z e
 .rw[if_neg z]at e ⊢;cases q:G x with
  |none=>rw[q]at e;cases e
  |some u=>
   rw[h _ _ q];rw[q]at e;exact e
def dC {S:Ae->Prop}{G H:Hp}{x:Ae}{o:HO}(h:nQ S G H x=some o):(S x/\H x=some o)\/(¬S x/\G x=some o):=by
 unfold nQ at h;by_cases z:S x
 .rw[if_pos z]at h;exact .inl ⟨z,h⟩
 .rw[if_neg z]at h;split at h
  .cases h
  .exact .inr ⟨z,h⟩
inductive yI (G:Hp):HO->Aa->Prop where
 |lst {xs:List V}{ds:List Aa}:AVs G xs ds->yI G (.lst xs) (.list ds)
 |dk {kvs:List (Key×V)}{ds:List (Aa×Aa)}:AVk G kvs ds->yI G (.dK kvs) (yW ds)
def yI.ob {G:Hp}{o:HO}{c:Aa}(h:yI G o c):Ob o:=by cases h<;>trivial
theorem yI.same {G a:Hp}{o:HO}{c:Aa}(h:yI G o c)(s:zz G a):yI a o c:=by
 cases h with
 |lst h=>exact .lst (h.same s)
 |dk h=>exact .dk (h.same s)
theorem yI.av {G:Hp}{o:HO}{ds:List Aa}{l:Ae}(h:yI G o (.list ds))(e:G l=some o):AV G (.ref l) (.list ds):=by
 cases h with
 |lst h=>exact .lst e h
def yI.lst_inv {G:Hp}{o:HO}{ds:List Aa}(h:yI G o (.list ds)):∃xs,o=.lst xs/\AVs G xs ds:=by cases h;exact⟨_,rfl,by assumption⟩
def yI.dk_inv {G:Hp}{o:HO}{ds:List (Aa×Aa)}(h:yI G o (yW ds)):∃xs,o=.dK xs/\AVk G xs ds:=by cases h;exact⟨_,rfl,by assumption⟩
theorem yI.plain {G H:Hp}{o:HO}{c:Aa}{l:Ae}(h:yI G o c)(e:H l=some o):Plain H l:=by
 cases h with
 |lst h=>exact qD e
 |dk h=>exact rY e
structure Lnk (r F:Fr)(H:Hp):Prop where
 tp:r.tp=F.tp
 o:∀x,r.O0 x->F.O0 x
 ok:zK r H
 k:Kz r r.H0 H
def xW (G H:Hp):List Ae->List (List Aa)->Prop
 |[],[]=>True
 |a::ls,ds::dss=>(∃xs,H a=some (.lst xs)/\AVs G xs ds)/\xW G H ls dss
 |_,_=>False
theorem xW.same {G c H H':Hp}(g:zz G c):∀{ls:List Ae}{dss:List (List Aa)},(∀a∈ls,∀o,H a=some o->H' a=some o)->xW G H ls dss->xW c H' ls dss
 |[],[],_,_=>trivial
 |a::ls,ds::dss,h,⟨⟨xs,e,av⟩,r⟩=>⟨⟨xs,h a z03 _ e,av.same g⟩,xW.same g (λb hb=>h b (z01 _ hb)) r⟩
 |[],_::_,_,z=>z.elim
 |_::_,[],_,z=>z.elim
theorem xW.obj {G H:Hp}:∀{ls:List Ae}{dss:List (List Aa)},xW G H ls dss->∀a∈ls,∃xs,H a=some (.lst xs)
 |[],_,_,_,h=>by cases h
 |b::ls,ds::dss,⟨⟨xs,e,_⟩,r⟩,a,h=>by
  rcases zZ9.mp h with z|z
  .exact⟨xs,z▸e⟩
  .exact xW.obj r a z
 |_::_,[],z,_,_=>z.elim
theorem xW.avs {G H:Hp}{p:Ae->Prop}(g:zz G (sub p H)):∀{ls:List Ae}{dss:List (List Aa)},(∀a∈ls,p a)->xW G H ls dss->AVs (sub p H) (ls.map .ref) (dss.map .list)
 |[],[],_,_=>.nil
 |a::ls,ds::dss,h,⟨⟨xs,e,av⟩,r⟩=>.cons (.lst (zy (h a z03) e) (av.same g)) (xW.avs g (λb hb=>h b (z01 _ hb)) r)
 |[],_::_,_,z=>z.elim
 |_::_,[],_,z=>z.elim
def vH (G:Hp)(F:Fr)(H:Hp)(s:Option V):A->Prop
 |.dat d=>∃v,s=some v/\AV G v d
 |.ow c=>∃l o,s=some (.ref l)/\H l=some o/\yI G o c/\¬F.O0 l/\F.H0 l=none
 |.deep d S=>∃v,s=some v/\AV (nQ S G H) v d/\∀x,S x->¬F.O0 x/\F.H0 x=none/\∃xs,H x=some (.lst xs)
 |.tape=>∃t b c,F.tp=some (t,b,c)/\s=some (.ref t)
 |.at l=>s=some (.ref l)
 |.exc r _=>Lnk r F H
 |.pin l vs ds=>s=some (.ref l)/\G l=some (.lst vs)/\AVs G vs ds
 |.nst l ls dss=>s=some (.ref l)/\H l=some (.lst (ls.map .ref))/\xW G H ls dss/\(l::ls).Nodup/\∀x∈l::ls,¬F.O0 x/\F.H0 x=none
structure M (F:Fr)(L:Ev)(B:St)(H:Hp):Prop where
 len:L.length=B.length
 ok:∀(i:Nat) (a:A) (s:Option V),L[i]?=some (some a)->B[i]?=some s->vH (Gz F L B H) F H s a
 dj:∀(i j:Nat) (a b:A) (s t:Option V) (x:Ae),L[i]?=some (some a)->L[j]?=some (some b)->B[i]?=some s->B[j]?=some t->foot s a x->foot t b x->i=j
 xd:∀(i:Nat) (r:Fr) (q:Aa->Prop),L[i]?=some (some (.exc r q))->∀(j:Nat) (a:A) (s:Option V) (x:Ae),L[j]?=some (some a)->B[j]?=some s->foot s a x->r.H0 x=none
 tp:zK F H
 keep:Kz F F.H0 H
 oex:∀x,F.O0 x->∃o,H x=some o/\wJ o
def M.at' {F:Fr}{L:Ev}{B:St}{H:Hp}(m:M F L B H){i:Nat}{a:Option A}(e:L[i]?=some a):∃s,B[i]?=some s:=by
 have:i<B.length:=by rw[<-m.len];exact(zZ6.mp e).1
 exact⟨_,zZ5 this⟩
theorem pL {G:Hp}{F:Fr}{H:Hp}{s:Option V}{a:A}{x:Ae}(h:vH G F H s a)(f:foot s a x):¬F.O0 x/\F.H0 x=none/\∃o,H x=some o/\Ob o:=by
 cases a with
 |ow c=>
  obtain⟨l,o,h1,h2,h3,i,b⟩:=h;rw[f]at h1;cases h1;exact⟨i,b,o,h2,h3.ob⟩
 |deep d S=>
  obtain⟨v,h1,h2,h3⟩:=h;obtain⟨j,k,xs,z3⟩:=h3 x f;exact⟨j,k,_,z3,trivial⟩
 |dat d=>exact f.elim
 |tape=>exact f.elim
 |«at» l=>exact f.elim
 |exc r q=>exact f.elim
 |pin l vs ds=>exact f.elim
 |nst l ls dss=>
  obtain⟨h1,h2,h3,i,b⟩:=h;have g:=f;refine⟨(b x g).1,(b x g).2,?_⟩;rcases zZ9.mp g with z|z
  .exact⟨.lst (ls.map .ref),z▸h2,trivial⟩
  .obtain⟨xs,e⟩:=h3.obj x z;exact⟨.lst xs,e,trivial⟩
def Lnk.kz {r F:Fr}{H H':Hp}(l:Lnk r F H)(k:Kz F H H')(t:zK F H'):Lnk r F H':=⟨l.tp,l.o,l.ok.re t l.tp.symm,λx o e n=>k x o (l.k x o e n) ⟨λa b c z=>n.1 a b c (l.tp.trans z),n.2⟩⟩
theorem Lnk.none {r F:Fr}{H:Hp}(l:Lnk r F H){x:Ae}(h:H x=Option.none):r.H0 x=Option.none:=by
 cases q:r.H0 x with
 |none=>rfl
 |some o=>rw[l.k x o q ⟨λa b c e=>⟨((l.ok a b c e).1.free h).1,((l.ok a b c e).1.free h).2.1⟩,nF l.ok.tab h⟩]at h;cases h
def noX :A->Prop
 |.exc _ _=>False
 |_=>True
theorem vH.stay {G k:Hp}{F F':Fr}{H H':Hp}{s:Option V}{a:A}(h:vH G F H s a)(g:zz G k)(hf:∀x o,foot s a x->H x=some o->H' x=some o/\¬F'.O0 x/\F'.H0 x=none)(u:F'.tp=F.tp)(p:∀r q,a=.exc r q->Lnk r F H->Lnk r F' H'):vH k F' H' s a:=by
 cases a with
 |dat d=>obtain⟨v,h1,h2⟩:=h;exact⟨v,h1,h2.same g⟩
 |ow c=>
  obtain⟨l,o,h1,h2,h3,m,n⟩:=h;obtain⟨f,j,z3⟩:=hf l o h1 h2;exact⟨l,o,h1,f,h3.same g,j,z3⟩
 |deep d S=>
  obtain⟨v,h1,h2,h3⟩:=h;refine⟨v,h1,h2.same (qR g λx o z e=>(hf x o z e).1),λx z=>?_⟩;obtain⟨_,_,xs,e⟩:=h3 x z;obtain⟨f,j,z3⟩:=hf x _ z e;exact⟨j,z3,xs,f⟩
 |tape=>obtain⟨t,b,c,e,z⟩:=h;exact⟨t,b,c,u.trans e,z⟩
 |«at» l=>exact h
 |exc r q=>exact p r q rfl h
 |pin l vs ds=>exact⟨h.1,g _ _ h.2.1,h.2.2.same g⟩
 |nst l ls dss=>
  obtain⟨h1,h2,h3,m,n⟩:=h;refine⟨h1,(hf l _ z03 h2).1,h3.same g λa ha o e=>(hf a o (z01 _ ha) e).1,m,λx i=>?_⟩;rcases zZ9.mp i with z|z
  .exact(hf x _ i (z▸h2)).2
  .obtain⟨xs,e⟩:=h3.obj x z;exact(hf x _ i e).2
section
variable {F:Fr}{L:Ev}{B:St}{H H' H'':Hp}
theorem M.dat (m:M F L B H)(i:Nat)(d:Aa)(e:L[i]?=some (some (.dat d))):∃v,B[i]?=some (some v)/\AV (Gz F L B H) v d:=by
 obtain⟨s,a⟩:=m.at' e;obtain⟨v,rfl,h⟩:=m.ok i _ s e a;exact⟨v,a,h⟩
def M.owc (m:M F L B H)(i:Nat)(c:Aa)(e:L[i]?=some (some (.ow c))):∃l o,B[i]?=some (some (.ref l))/\H l=some o/\yI (Gz F L B H) o c/\¬F.O0 l/\F.H0 l=none:=by
 obtain⟨s,a⟩:=m.at' e;obtain⟨l,o,rfl,h⟩:=m.ok i _ s e a;exact⟨l,o,a,h⟩
theorem M.own (m:M F L B H)(i:Nat)(ds:List Aa)(e:L[i]?=some (some (.own ds))):∃l xs,B[i]?=some (some (.ref l))/\H l=some (.lst xs)/\AVs (Gz F L B H) xs ds/\¬F.O0 l/\F.H0 l=none:=by
 obtain⟨l,o,h1,h2,h3,b⟩:=m.owc i _ e;obtain⟨xs,rfl,a⟩:=h3.lst_inv;exact⟨l,xs,h1,h2,a,b⟩
theorem M.dic (m:M F L B H)(i:Nat)(ds:List (Aa×Aa))(e:L[i]?=some (some (.dic ds))):∃l xs,B[i]?=some (some (.ref l))/\H l=some (.dK xs)/\AVk (Gz F L B H) xs ds/\¬F.O0 l/\F.H0 l=none:=by
 obtain⟨l,o,h1,h2,h3,b⟩:=m.owc i _ e;obtain⟨xs,rfl,a⟩:=h3.dk_inv;exact⟨l,xs,h1,h2,a,b⟩
def M.tvar (m:M F L B H)(i:Nat)(e:L[i]?=some (some .tape)):∃t b c,F.tp=some (t,b,c)/\B[i]?=some (some (.ref t)):=by
 obtain⟨s,a⟩:=m.at' e;obtain⟨t,b,c,h,rfl⟩:=m.ok i _ s e a;exact⟨t,b,c,h,a⟩
def M.lnk (m:M F L B H){i:Nat}{r:Fr}{q:Aa->Prop}(e:L[i]?=some (some (.exc r q))):Lnk r F H:=by
 obtain⟨s,a⟩:=m.at' e;exact m.ok i _ s e a
def Kz.refl :Kz F H H:=λ_ _ e _=>e
def Kz.trans (h:Kz F H H')(k:Kz F H' H''):Kz F H H'':=λx o e n=>k x o (h x o e n) n
def Kz.of_same (h:zz H H'):Kz F H H':=λx o e _=>h x o e
def zK.same (t:zK F H)(h:zz H H'):zK F H':=⟨aF t.tab h,t.ot,λa b c e=>⟨fu (t a b c e).1 h,(t a b c e).2⟩⟩
def zK.nt (t:zK F H){x:Ae}(h:¬F.O0 x):NT F x:=⟨λa b c e=>⟨λz=>h (z▸(t a b c e).2.1),λz=>h (z▸(t a b c e).2.2.1)⟩,λz=>h (t.ot x z)⟩
def ow0 {x:Ae}(h:¬Ow F L B x):¬F.O0 x:=λz=>h (.inl z)
def Kz.gz (k:Kz F H H')(t:zK F H):zz (Gz F L B H) (Gz F L B H'):=zq λa o h e=>⟨h,k a o e (t.nt (ow0 h))⟩
def M.oex' (t:zK F H')(k:Kz F H H')(h:∀x,F.O0 x->∃o,H x=some o/\wJ o):∀x,F.O0 x->∃o,H' x=some o/\wJ o:=λx i=>by
 by_cases n:NT F x
 .obtain⟨o,d,hn⟩:=h x i;exact⟨o,k _ _ d n,hn⟩
 .by_cases z:qh x
  .obtain⟨o,d,hn,_⟩:=oC t.tab z;exact⟨o,d,hn⟩
  .have:∃a b c,F.tp=some (a,b,c)/\¬(x≠a/\x≠b):=by exact Classical.byContradiction λq=>n ⟨λa b c e=>(Classical.byContradiction λw=>q ⟨a,b,c,e,w⟩),z⟩
   obtain⟨a,b,c,e,w⟩:=this;obtain⟨n,bs,cs,_,e1,j,l,_⟩:=(t a b c e).1.ex;by_cases g:x=a
   .exact⟨_,g▸e1,yT⟩
   .by_cases f:x=b
    .exact⟨_,f▸j,yT⟩
    .exact absurd ⟨g,f⟩ w
theorem M.kz (m:M F L B H)(k:Kz F H H')(t:zK F H'):M F L B H' where
 len:=m.len
 ok:=λi a s e1 b=>(m.ok i a s e1 b).stay (k.gz m.tp) (λx o hf e=>by
  obtain⟨h1,h2,_⟩:=pL (m.ok i a s e1 b) hf;exact⟨k x o e (m.tp.nt h1),h1,h2⟩) rfl λr _ _ l=>l.kz k t
 dj:=m.dj
 xd:=m.xd
 tp:=t
 keep:=m.keep.trans k
 oex:=M.oex' t k m.oex
def M.ft (m:M F L B H){i:Nat}{a:A}{s:Option V}{x:Ae}(e1:L[i]?=some (some a))(b:B[i]?=some s)(f:foot s a x):¬F.O0 x/\F.H0 x=none/\∃o,H x=some o/\Ob o:=pL (m.ok i a s e1 b) f
def M.owEx (m:M F L B H){x:Ae}(h:Ow F L B x):∃o,H x=some o/\wJ o:=by
 rcases h with z|⟨i,a,s,e1,b,f⟩
 .exact m.oex x z
 .obtain⟨_,_,o,c,hb⟩:=m.ft e1 b f;exact⟨o,c,hb.notup⟩
def M.fresh (m:M F L B H){l:Ae}(h:H l=none):¬Ow F L B l:=λz=>by
 obtain⟨o,a,_⟩:=m.owEx z;rw[h]at a;cases a
theorem M.fresh0 (m:M F L B H){l:Ae}(h:H l=none):F.H0 l=none:=by
 cases q:F.H0 l with
 |none=>rfl
 |some o=>rw[m.keep l o q (m.tp.nt λz=>m.fresh h (.inl z))]at h;cases h
def M.old (m:M F L B H):zz (sub (λx=>¬F.O0 x) F.H0) (Gz F L B H):=λa o e=>by
 obtain⟨h1,h2⟩:=zc e;refine zy ?_ (m.keep a o h2 (m.tp.nt h1));rintro(z|⟨i,b,s,e1,c,f⟩)
 .exact h1 z
 .obtain⟨_,z,_⟩:=m.ft e1 c f;rw[h2]at z;cases z
noncomputable def Fr.up (F:Fr)(G:Hp):Fr:={F with H0:=λx=>(F.H0 x).or (G x)}
def pK {G:Hp}{x:Ae}{o:HO}(h:F.H0 x=some o):(F.up G).H0 x=some o:=by show(F.H0 x).or (G x)=some o;rw[h];rfl
theorem jO {G:Hp}{x:Ae}(h:(F.up G).H0 x=none):F.H0 x=none:=by
 cases q:F.H0 x with
 |none=>rfl
 |some o=>rw[pK q]at h;cases h
theorem M.up (m:M F L B H):M (F.up (Gz F L B H)) L B H where
 len:=m.len
 ok:=λi a s e1 c=>(m.ok i a s e1 c).stay (λ_ _ e=>e) (λx o hf e=>by
  obtain⟨h1,h2,_⟩:=m.ft e1 c hf;refine⟨e,h1,?_⟩;show(F.H0 x).or (Gz F L B H x)=none;rw[h2];cases q:Gz F L B H x with
  |none=>rfl
  |some o=>exact absurd (.inr ⟨i,a,s,e1,c,hf⟩) (zc q).1) rfl λr _ _ l=>⟨l.tp,l.o,l.ok,l.k⟩
 dj:=m.dj
 xd:=m.xd
 tp:=m.tp.to rfl λ_ z=>z
 keep:=λx o e n=>by
  have b:(F.H0 x).or (Gz F L B H x)=some o:=e;cases q:F.H0 x with
  |none=>rw[q,Option.none_or]at b;exact(zc b).2
  |some o'=>rw[q]at b;cases b;exact m.keep x _ q n
 oex:=m.oex
def M.down {G:Hp}(m:M (F.up G) L B H):M F L B H where
 len:=m.len
 ok:=λi a s e1 b=>(m.ok i a s e1 b).stay (λ_ _ e=>e) (λx o hf e=>by
  obtain⟨h1,h2,_⟩:=m.ft e1 b hf;exact⟨e,h1,jO h2⟩) rfl λr _ _ l=>⟨l.tp,l.o,l.ok,l.k⟩
 dj:=m.dj
 xd:=m.xd
 tp:=m.tp.to rfl λ_ z=>z
 keep:=λx o e n=>m.keep x o (pK e) n
 oex:=m.oex
def M.upold {c:Ev}{b:St}{H1:Hp}(m0:M F c b H1)(m:M (F.up (Gz F c b H1)) L B H):zz (Gz F c b H1) (Gz F L B H):=λa o e=>by
 obtain⟨h1,h2⟩:=zc e;have d:(F.up (Gz F c b H1)).H0 a=some o:=by
  show(F.H0 a).or (Gz F c b H1 a)=some o;cases q:F.H0 a with
  |none=>exact e
  |some o'=>
   have:=m0.keep a o' q (m0.tp.nt (ow0 h1));rw[h2]at this;cases this;rfl
 exact m.old a o (zy (ow0 h1) d)
end
def yM (F:Fr)(L:Ev)(B:St)(H:Hp)(v:V)(H':Hp)(ds:List Aa):Prop:=
 ∃l xs,v=.ref l/\H l=none/\H' l=some (.lst xs)/\AVs (sub (λx=>¬Ow F L B x/\x≠l) H') xs ds
def lu (F:Fr)(L:Ev)(B:St)(H:Hp)(v:V)(H':Hp)(c:Aa):Prop:=
 ∃l o,v=.ref l/\H l=none/\H' l=some o/\yI (sub (λx=>¬Ow F L B x/\x≠l) H') o c
def yM.c {F:Fr}{L:Ev}{B:St}{H H':Hp}{v:V}{ds:List Aa}(h:yM F L B H v H' ds):lu F L B H v H' (.list ds):=by
 obtain⟨l,xs,h1,h2,h3,a⟩:=h;exact⟨l,_,h1,h2,h3,.lst a⟩
def yM.av {F:Fr}{L:Ev}{B:St}{H H':Hp}{v:V}{ds:List Aa}(m:M F L B H)(h:yM F L B H v H' ds):AV (Gz F L B H') v (.list ds):=by
 obtain⟨l,xs,rfl,h1,h2,h3⟩:=h;exact .lst (zy (m.fresh h1) h2) (h3.same (zq λa o h e=>⟨h.1,e⟩))
section
variable (X:Cx)(L:Ev)
def EvD (e:Ak)(Q:Aa->Prop):Prop:=∀(F:Fr) (B:St) (H:Hp) (R:VK),M F L B H->(∀d v H',Q d->zK F H'->Kz F H H'->AV (Gz F L B H') v d->R v H')->uj X e B H R
def EvL (e:Ak)(Q:List Aa->Prop):Prop:=∀(F:Fr) (B:St) (H:Hp) (R:VK),M F L B H->(∀ds v H',Q ds->zK F H'->Kz F H H'->yM F L B H v H' ds->R v H')->uj X e B H R
def EvC (e:Ak)(Q:Aa->Prop):Prop:=∀(F:Fr) (B:St) (H:Hp) (R:VK),M F L B H->(∀c v H',Q c->zK F H'->Kz F H H'->lu F L B H v H' c->R v H')->uj X e B H R
def EvT (e:Ak)(Q:Bool->Prop):Prop:=∀(F:Fr) (B:St) (H:Hp) (R:Bool->Hp->Prop),M F L B H->(∀b H',Q b->zK F H'->Kz F H H'->R b H')->zT9 X e B H R
def eN (F:Fr)(G:Hp)(v:V):A->Prop
 |.dat d=>AV G v d
 |.tape=>∃t b c,F.tp=some (t,b,c)/\v=.ref t
 |_=>False
inductive yp (F:Fr)(G:Hp):List V->List A->Prop where
 |nil:yp F G [] []
 |cons {v:V}{vs:List V}{a:A}{as:List A}:eN F G v a->yp F G vs as->yp F G (v::vs) (a::as)
def EvA (a:List Ak)(Q:List A->Prop):Prop:=∀(F:Fr) (B:St) (H:Hp) (R:List V->Hp->Prop),M F L B H->(∀as vs H',Q as->zK F H'->Kz F H H'->yp F (Gz F L B H') vs as->R vs H')->zA8 X a B H R
end
theorem eN.to {F F':Fr}{G d:Hp}(s:zz G d)(f:F'.tp=F.tp){v:V}:∀{a:A},eN F G v a->eN F' d v a
 |.dat _,h=>AV.same s h
 |.tape,⟨t,b,c,e,z⟩=>⟨t,b,c,f.trans e,z⟩
 |.ow _,h=>h
 |.deep _ _,h=>h
 |.at _,h=>h
 |.exc _ _,h=>h
 |.pin _ _ _,h=>h
 |.nst _ _ _,h=>h
theorem yp.to {F F':Fr}{G a:Hp}(s:zz G a)(b:F'.tp=F.tp){vs:List V}{as:List A}(h:yp F G vs as):yp F' a vs as:=by
 induction h with
 |nil=>exact .nil
 |cons h _ c=>exact .cons (h.to s b) c
theorem yp.length {F:Fr}{G:Hp}:∀{vs:List V}{as:List A},yp F G vs as->vs.length=as.length
 |_,_,.nil=>rfl
 |_,_,.cons _ r=>by rw[z28,z28,yp.length r]
noncomputable def A.d :A->Aa
 |.dat d=>d
 |.ow c=>c
 |.deep d _=>d
 |.nst _ _ dss=>.list (dss.map .list)
 |_=>.none
def zg2 (F:Fr)(v:V)(H':Hp):A->Prop
 |.dat d=>AV (sub (λx=>¬F.O0 x) H') v d
 |.ow c=>∃l xs ds,v=.ref l/\c=.list ds/\F.H0 l=none/\¬F.O0 l/\H' l=some (.lst xs)/\AVs (sub (λx=>¬F.O0 x/\x≠l) H') xs ds
 |.deep d S=>AV (nQ S (sub (λx=>¬F.O0 x) H') H') v d/\∀x,S x->¬F.O0 x/\F.H0 x=none/\∃xs,H' x=some (.lst xs)
 |.nst l ls dss=>v=.ref l/\H' l=some (.lst (ls.map .ref))/\xW (sub (λx=>¬F.O0 x/\x∉l::ls) H') H' ls dss/\(l::ls).Nodup/\∀x∈l::ls,¬F.O0 x/\F.H0 x=none
 |_=>False
def uY (F:Fr)(v:V)(H':Hp)(a:A):Prop:=zK F H'/\Kz F F.H0 H'/\zg2 F v H' a
def spA (φ:List A->(A->Prop)->Prop):Sp:=λvs H b _=>∃(F:Fr) (as:List A) (Q:A->Prop),F.H0=H/\zK F H/\(∀x,F.O0 x->∃o,H x=some o/\wJ o)/\yp F (sub (λx=>¬F.O0 x) H) vs as/\φ as Q/\∀a v H',Q a->uY F v H' a->b v H'
theorem zg2.to {F F':Fr}{v:V}{H':Hp}{a:A}(r:zg2 F v H' a)(b:∀x,F'.O0 x->F.O0 x)(h0:∀x,F.H0 x=none->F'.H0 x=none):zg2 F' v H' a:=by
 have s:zz (sub (λx=>¬F.O0 x) H') (sub (λx=>¬F'.O0 x) H'):=zq λa o h e=>⟨λz=>h (b _ z),e⟩;cases a with
 |dat d=>exact AV.same s r
 |ow c=>
  obtain⟨l,xs,ds,h1,j,h2,h3,g,f⟩:=r;exact⟨l,xs,ds,h1,j,h0 _ h2,λz=>h3 (b _ z),g,f.same (zq λa o h e=>⟨⟨λz=>h.1 (b _ z),h.2⟩,e⟩)⟩
 |deep d S=>
  obtain⟨h1,h2⟩:=r;refine⟨h1.same (qR s λ_ _ _ e=>e),λx z=>?_⟩;obtain⟨k,m,z3⟩:=h2 x z;exact⟨λw=>k (b _ w),h0 _ m,z3⟩
 |tape=>exact r
 |«at» _=>exact r
 |exc _ _=>exact r
 |pin _ _ _=>exact r
 |nst l ls dss=>
  obtain⟨h1,h2,h3,g,f⟩:=r;exact⟨h1,h2,h3.same (zq λa o h e=>⟨⟨λz=>h.1 (b _ z),h.2⟩,e⟩) (λ_ _ _ e=>e),g,λx i=>⟨λz=>(f x i).1 (b _ z),h0 _ (f x i).2⟩⟩
structure xf where
 nx:Ev->Prop
 rt:A->Prop
 bk:Ev->Prop:=λ_=>False
 ct:Ev->Prop:=λ_=>False
structure mE (F:Fr)(E:xf)(D:Ends):Prop where
 nx:∀L B H,M F L B H->E.nx L->D.nx B H
 rt:∀a v H,uY F v H a->E.rt a->D.rt v H
 bk:∀L B H,M F L B H->E.bk L->D.bk B H
 ct:∀L B H,M F L B H->E.ct L->D.ct B H
def SvS (X:Cx)(L:Ev)(a:List An)(E:xf):Prop:=∀(F:Fr) (B:St) (H:Hp) (D:Ends),M F L B H->mE F E D->zi3 X a D B H
theorem mE.up {F:Fr}{G:Hp}{E:xf}{D:Ends}(e:mE F E D):mE (F.up G) E D where
 nx:=λL B H m q=>e.nx L B H m.down q
 bk:=λL B H m q=>e.bk L B H m.down q
 ct:=λL B H m q=>e.ct L B H m.down q
 rt:=λa v H r q=>e.rt a v H (by
  obtain⟨t,k,r⟩:=r;exact⟨t.to rfl λ_ z=>z,λx o e n=>k x o (pK e) n,r.to (λ_ z=>z) λx z=>jO z⟩) q
section
variable {X:Cx}{L:Ev}{e a b c:Ak}{es:List Ak}{pos p q:Pos}{Q:Aa->Prop}
def EvL.d (h:EvL X L e (λds=>Q (.list ds))):EvD X L e Q:=λF B H R m k=>h F B H R m λds v H' q t z f=>k _ v H' q t z (f.av m)
def EvD.imp {f:Aa->Prop}(h:EvD X L e f)(k:∀d,f d->Q d):EvD X L e Q:=λF B H R m r=>h F B H R m λd v H' q=>r d v H' (k d q)
def zi (i:Nat){x:Str}{d:Aa}(hi:L[i]?=some (some (.dat d)))(q:Q d)(h:X.N[i]?=some x:=by rfl)(g:Vis X.env.scope x:=by first|exact Or.inl rfl|exact Or.inr (Or.inl rfl)|exact Or.inr (Or.inr rfl))
  (hd:(x == ("__debug__":Str))=false:=by decide) (f:(x == ("__classdict__":Str))=false:=by decide):EvD X L (.Name x pos) Q:=λF B H R m k=>by
 obtain⟨v,h1,h2⟩:=m.dat i d hi;exact⟨_,xj h g hd f,v,h1,k d v H q m.tp Kz.refl h2⟩
def yz {i:Int}{j:Nat}(q:Q (.int i)):EvD X L (.Constant (.int i) j pos) Q:=λF B H R m k=>⟨_,zu,k _ _ H q m.tp Kz.refl (.int i)⟩
def iI {i:Bool}{j:Nat}(q:Q (.bool i)):EvD X L (.Constant (.bool i) j pos) Q:=λF B H R m k=>⟨_,zM2,k _ _ H q m.tp Kz.refl (.bl i)⟩
def rL {j:Nat}(q:Q .none):EvD X L (.Constant .none j pos) Q:=λF B H R m k=>⟨_,zb5,k _ _ H q m.tp Kz.refl .non⟩
def xA {x:Str}{j:Nat}(q:Q (.str x)):EvD X L (.Constant (.str x) j pos) Q:=λF B H R m k=>⟨_,zB2,k _ _ H q m.tp Kz.refl (.str x)⟩
def wg {x:Str}{i:Int}(hg:Gl X x)(hm:∃t,X.mg x=some (.int i t))(q:Q (.int i))(hd:(x == ("__debug__":Str))=false:=by decide):EvD X L (.Name x pos) Q:=λF B H R m k=>by
 obtain⟨t,hm⟩:=hm;exact⟨_,zm2 hg hm (show RelV (.int i) (.int i t)from⟨t,rfl⟩) hd,k _ _ H q m.tp Kz.refl (.int i)⟩
def uS {f:TE->TE->TE}(hf:PE X e (f (uj X a) (uj X b)))(hr:∀B H R,f (uj X a) (uj X b) B H R↔uj X a B H (λx H1=>uj X b B H1 λy l=>f (tC x) (tC y) B l R))
  (h:EvD X L a λx=>EvD X L b λy=>∀(F:Fr) (B:St) (H:Hp) (g i:V) (R:VK),M F L B H->AV (Gz F L B H) g x->AV (Gz F L B H) i y->(∀d v H',Q d->zK F H'->Kz F H H'->AV (Gz F L B H') v d->R v H')->f (tC g) (tC i) B H R):
  EvD X L e Q:=λF B H R m k=>by
 refine⟨_,hf,(hr B H R).mpr ?_⟩;refine h F B H _ m λx g H1 r t1 n z=>?_;have m1:=m.kz n t1;exact r F B H1 _ m1 λy i l t o j s=>t F B l g i R (m1.kz j o) (z.same (j.gz m1.tp)) s λd v H' w t3 A u=>k d v H' w t3 ((n.trans j).trans A) u
def AV.int_inv {H:Hp}{v:V}{i:Int}(h:AV H v (.int i)):v=.int i:=by cases h;rfl
def AV.bl_inv {H:Hp}{v:V}{i:Bool}(h:AV H v (.bool i)):v=.bl i:=by cases h;rfl
def AV.str_inv {H:Hp}{v:V}{i:Str}(h:AV H v (.str i)):v=.str i:=by cases h;rfl
def AV.tup_inv {H:Hp}{v:V}{ds:List Aa}(h:AV H v (.tuple ds)):∃a xs,v=.ref a/\H a=some (.tup xs)/\AVs H xs ds:=by cases h;exact⟨_,_,rfl,by assumption,by assumption⟩
def AV.lst_inv {H:Hp}{v:V}{ds:List Aa}(h:AV H v (.list ds)):∃a xs,v=.ref a/\H a=some (.lst xs)/\AVs H xs ds:=by cases h;exact⟨_,_,rfl,by assumption,by assumption⟩
def AV.non_inv {H:Hp}{v:V}(h:AV H v .none):v=.non:=by cases h;rfl
def AV.isnon {H:Hp}{v:V}{d:Aa}(h:AV H v d):decide (v=.non)=(match d with|.none=>true|_=>false):=by cases h<;>simp
def bj {op:Operator}{C:Int->Int->Prop}{g:Int->Int->V}{gd:Int->Int->Aa}(o:OpR X (binaryOp op) (rI C g))(hg:∀H i j,AV H (g i j) (gd i j))
  (h:EvD X L a λx=>EvD X L b λy=>∃i j,x=.int i/\y=.int j/\C i j/\Q (gd i j)):EvD X L (.BinOp a op b pos) Q:=by
 refine uS (ym o zf zf) (λ_ _ _=>Iff.rfl) (h.imp λx h=>h.imp λy d=>?_);obtain⟨i,j,e1,l,f,hq⟩:=d;subst e1 l;intro F B H s t R m r n k;cases r.int_inv;cases n.int_inv;exact⟨i,j,rfl,rfl,f,k _ _ H hq m.tp Kz.refl (hg _ i j)⟩
def ju {op:Operator}{g:Int->Int->V}{gd:Int->Int->Aa}(n:OpR X (binaryOp op) (rI0 g))(hg:∀H i j,AV H (g i j) (gd i j))
  (h:EvD X L a λx=>EvD X L b λy=>∃i j,x=.int i/\y=.int j/\Q (gd i j)):EvD X L (.BinOp a op b pos) Q:=by
 refine uS (ym n zf zf) (λ_ _ _=>Iff.rfl) (h.imp λx h=>h.imp λy d=>?_);obtain⟨i,j,e1,f,hq⟩:=d;subst e1 f;intro F B H r s R m o l k;cases o.int_inv;cases l.int_inv;exact⟨i,j,rfl,rfl,k _ _ H hq m.tp Kz.refl (hg _ i j)⟩
def vL (h:EvD X L a λx=>EvD X L b λy=>∃i j,x=.int i/\y=.int j/\Q (.int (i+j))):EvD X L (.BinOp a .Add b pos) Q:=ju uP (λ_ _ _=>.int _) h
def lL (h:EvD X L a λx=>EvD X L b λy=>∃i j,x=.int i/\y=.int j/\Q (.int (i-j))):EvD X L (.BinOp a .Sub b pos) Q:=ju zI1 (λ_ _ _=>.int _) h
def zB9 (h:EvD X L a λx=>EvD X L b λy=>∃i j,x=.int i/\y=.int j/\zD1 i j/\Q (.int (i ^ j.toNat))):EvD X L (.BinOp a .Pow b pos) Q:=bj aC (λ_ _ _=>.int _) h
def zs6 (h:EvD X L a λx=>EvD X L b λy=>∃i j,x=.int i/\y=.int j/\zv4 i j/\Q (.int (i / j))):EvD X L (.BinOp a .FloorDiv b pos) Q:=bj (gd:=λi j=>.int (i / j)) uz (λ_ _ _=>.int _) h
def oA {i j r:Int}{p1 p2:Pos}{n1 d:Nat}(f:zD1 i j)(hr:i ^ j.toNat=r)(q:Q (.int r)):EvD X L (.BinOp (.Constant (.int i) n1 p1) .Pow (.Constant (.int j) d p2) pos) Q:=
 zB9 (yz (yz ⟨i,j,rfl,rfl,f,hr▸q⟩))
def zF6 (h:EvD X L a λx=>∃i,x=.int i/\Q (.int (-i))):EvD X L (.UnaryOp .USub a pos) Q:=λF B H R m k=>by
 refine⟨_,ai lZ zf,h F B H _ m λx j H1 f t1 d g=>?_⟩;obtain⟨i,rfl,q⟩:=f;cases g.int_inv;exact⟨i,rfl,k _ _ H1 q t1 d (.int _)⟩
def tZ {op:CmpOp}{g:Int->Int->Bool}(n:OpR X (compareOp op) (rI0 λi j=>.bl (g i j)))(hm:behindInMarks op b=false)
  (h:EvD X L a λx=>EvD X L b λy=>∃i j,x=.int i/\y=.int j/\Q (.bool (g i j))):EvD X L (.Compare a [op] [b] pos) Q:=by
 refine uS (oZ n zf zf hm) (λ_ _ _=>Iff.rfl) (h.imp λx h=>h.imp λy d=>?_);obtain⟨i,j,e1,f,hq⟩:=d;subst e1 f;intro F B H r s R m o l k;cases o.int_inv;cases l.int_inv;exact⟨i,j,rfl,rfl,k _ _ H hq m.tp Kz.refl (.bl _)⟩
def zz2 (h:EvD X L a λx=>EvD X L b λy=>∃i j,x=.int i/\y=.int j/\Q (.bool (decide (i<j)))):EvD X L (.Compare a [.Lt] [b] pos) Q:=tZ qT (yd _) h
def zQ0 (h:EvD X L a λx=>EvD X L b λy=>∃i j,x=.int i/\y=.int j/\Q (.bool (decide (i<=j)))):EvD X L (.Compare a [.LtE] [b] pos) Q:=tZ vE (yd _) h
def zQ8 (h:EvD X L a λx=>EvD X L b λy=>∃i j,x=.int i/\y=.int j/\Q (.bool (decide (j<i)))):EvD X L (.Compare a [.Gt] [b] pos) Q:=tZ nY (yd _) h
def zP6 (h:EvD X L a λx=>EvD X L b λy=>∃i j,x=.int i/\y=.int j/\Q (.bool (decide (j<=i)))):EvD X L (.Compare a [.GtE] [b] pos) Q:=tZ ze0 (yd _) h
noncomputable def wK :Aa->Bool
 |.none=>true
 |_=>false
def AV.non_iff {H:Hp}{v:V}{d:Aa}(h:AV H v d):decide (v=.non)=wK d:=by cases h<;>simp[wK]
def zE8 {j:Nat}(h:EvD X L a λx=>Q (.bool (wK x))):EvD X L (.Compare a [.Is] [.Constant .none j p] pos) Q:=λF B H R m k=>by
 refine⟨_,oZ bH zf zb5 (yd _),h F B H _ m λx i H1 f t1 d g=>⟨rfl,?_⟩⟩;rw[g.non_iff];exact k _ _ H1 f t1 d (.bl _)
theorem nO {op d:CmpOp}{g s:Int->Int->Bool}(K:OpR X (compareOp op) (rI0 λi j=>.bl (g i j)))(o:OpR X (compareOp d) (rI0 λi j=>.bl (s i j)))(hm:lastMarks [op,d] [b,c]=false)
  (h:EvD X L a λx=>EvD X L b λy=>∃i j,x=.int i/\y=.int j/\(if g i j=true then EvD X L c λz=>∃k,z=.int k/\Q (.bool (s j k))else Q (.bool false))):EvD X L (.Compare a [op,d] [b,c] pos) Q:=λF B H R m k=>by
 refine⟨_,bO K o zf zf zf hm,h F B H _ m λx N H1 u t1 f C=>?_⟩;have m1:=m.kz f t1;refine u F B H1 _ m1 λy O t w r n I=>?_;obtain⟨i,j,e1,A,hq⟩:=w;subst e1 A;cases C.int_inv;cases I.int_inv;refine⟨i,j,rfl,rfl,_,rfl,?_⟩;cases hg:g i j with
 |true=>
  rw[hg]at hq;refine tO ?_;refine(by simpa using hq:EvD X L c _) F B t _ (m1.kz n r) λz M E G t3 D J=>?_;obtain⟨v,rfl,l⟩:=G;cases J.int_inv;exact⟨j,v,rfl,rfl,k _ _ E l t3 ((f.trans n).trans D) (.bl _)⟩
 |false=>
  rw[hg]at hq;exact tP (k _ _ t (by simpa using hq) r (f.trans n) (.bl _))
def zf2 {Q:Bool->Prop}(h:EvD X L e λx=>∃k,x=.bool k/\Q k)(he:∀whole,isTrue e X.env whole=(do let v <-whole;standAt e.pos;holding [v] (truthy v)):=by intro _;rfl):EvT X L e Q:=λF B H R m k=>by
 refine⟨_,zH4 zf he,h F B H _ m λx i H1 f t1 d g=>?_⟩;obtain⟨b,rfl,q⟩:=f;cases g.bl_inv;exact⟨b,rfl,k b H1 q t1 d⟩
def Cmp (r:R2)(x y:Aa)(k:Bool):Prop:=∀(p:Ae->Prop) (H:Hp) (f d:V) (R:VK),AV (sub p H) f x->AV (sub p H) d y->R (.bl k) H->r f d H R
def xR {op:CmpOp}{r:R2}{Q:Bool->Prop}(t:OpR X (compareOp op) r)(hm:behindInMarks op b=false)(h:EvD X L a λx=>EvD X L b λy=>∃k,Cmp r x y k/\Q k):EvT X L (.Compare a [op] [b] pos) Q:=λF B H R m k=>by
 refine⟨_,vq t zf zf hm,h F B H _ m λx o H1 j t1 d v=>?_⟩;have m1:=m.kz d t1;refine j F B H1 _ m1 λy u g s i f n=>?_;obtain⟨b,l,q⟩:=s;exact l _ g o u _ (v.same (f.gz m1.tp)) n ⟨b,rfl,k b g q i (d.trans f)⟩
def zg5 {g:Int->Int->Bool}{i j:Int}:Cmp (rI0 λi j=>.bl (g i j)) (.int i) (.int j) (g i j):=λp H l k R f d h=>by
 cases f.int_inv;cases d.int_inv;exact⟨i,j,rfl,rfl,h⟩
def oV {op:CmpOp}{g:Int->Int->Bool}{Q:Bool->Prop}(k:OpR X (compareOp op) (rI0 λi j=>.bl (g i j)))(hm:behindInMarks op b=false)
  (h:EvD X L a λx=>EvD X L b λy=>∃i j,x=.int i/\y=.int j/\Q (g i j)):EvT X L (.Compare a [op] [b] pos) Q:=
 xR k hm (h.imp λx h=>h.imp λy d=>by obtain⟨i,j,e1,f,q⟩:=d;exact⟨_,by subst e1 f;exact zg5,q⟩)
def zK6 {Q:Bool->Prop}(h:EvD X L a λx=>EvD X L b λy=>∃i j,x=.int i/\y=.int j/\Q (decide (i<j))):EvT X L (.Compare a [.Lt] [b] pos) Q:=oV qT (yd _) h
def zt0 {Q:Bool->Prop}(h:EvD X L a λx=>EvD X L b λy=>∃i j,x=.int i/\y=.int j/\Q (decide (j<i))):EvT X L (.Compare a [.Gt] [b] pos) Q:=oV nY (yd _) h
def zO8 {Q:Bool->Prop}(h:EvD X L a λx=>EvD X L b λy=>∃i j,x=.int i/\y=.int j/\Q (decide (j<=i))):EvT X L (.Compare a [.GtE] [b] pos) Q:=oV ze0 (yd _) h
def vP {j:Nat}{Q:Bool->Prop}(h:EvD X L a λx=>Q (wK x)):EvT X L (.Compare a [.Is] [.Constant .none j p] pos) Q:=
 xR bH (yd _) (h.imp λx h=>rL ⟨_,λp H i g R f d z=>⟨d.non_inv,by rw[f.non_iff];exact z⟩,h⟩)
def zj4 {j:Nat}{Q:Bool->Prop}(h:EvD X L a λx=>Q (!wK x)):EvT X L (.Compare a [.IsNot] [.Constant .none j p] pos) Q:=
 xR zj5 (yd _) (h.imp λx h=>rL ⟨_,λp H i g R f d z=>⟨d.non_inv,by rw[f.non_iff];exact z⟩,h⟩)
noncomputable def zY7 :Aa->Option Bool
 |.none=>some false
 |.bool b=>some b
 |.int i=>some (i != 0)
 |.list ds=>some (!ds.isEmpty)
 |.tuple ds=>some (!ds.isEmpty)
 |_=>none
theorem AVs.isEmpty {H:Hp}{xs:List V}{ds:List Aa}(h:AVs H xs ds):xs.isEmpty=ds.isEmpty:=by cases h<;>rfl
theorem rA {Q:Bool->Prop}(h:EvD X L e λx=>∃k,zY7 x=some k/\Q k)(he:∀whole,isTrue e X.env whole=(do let v <-whole;standAt e.pos;holding [v] (truthy v)):=by intro _;rfl):EvT X L e Q:=λF B H R m k=>by
 refine⟨_,za1 zf he,h F B H _ m λx j H1 f t1 d g=>?_⟩;obtain⟨b,hb,q⟩:=f;refine⟨b,?_,k b H1 q t1 d⟩;cases g with
 |non=>cases hb;rfl
 |bl z=>cases hb;rfl
 |int i=>cases hb;rfl
 |str s=>cases hb
 |lst h1 h2=>cases hb;exact .inl ⟨_,SqL.of (zc h1).2,by rw[h2.isEmpty]⟩
 |tup h1 h2=>cases hb;exact .inr (.inl ⟨_,SqT.of (zc h1).2,by rw[h2.isEmpty]⟩)
 |ins _ _=>cases hb
 |dk _ _=>cases hb
 |dt _ _=>cases hb
 |xc _ _ _=>cases hb
 |xn _=>cases hb
def oR {Q:Bool->Prop}(h:EvT X L a λk=>Q (!k)):EvT X L (.UnaryOp .Not a pos) Q:=λF B H R m k=>by exact⟨_,zG6 xv,h F B H _ m λb H1 f t1 d=>k _ H1 f t1 d⟩
def EvW (X:Cx)(L:Ev)(e:Ak)(Q:Bool->Prop):Prop:=∀(F:Fr) (B:St) (H:Hp) (R:Bool->Hp->Prop),M F L B H->(∀b H',Q b->zK F H'->Kz F H H'->R b H')->∃t,PW X e t/\t B H R
def zW6 (X:Cx)(e:Ak):TT:=λB H Q=>∃t,PW X e t/\t B H Q
def jG :PW X e (zW6 X e):=λw pins s B H Q I d=>by obtain⟨t,p,q⟩:=d;exact p w pins s B H Q I q
theorem EvW.t {Q:Bool->Prop}(h:EvW X L e Q):EvT X L e Q:=λF B H R m k=>by
 obtain⟨t,p,q⟩:=h F B H R m k;exact⟨t,p.pt,q⟩
variable {rest:List Ak}
def pY {Q:Bool->Prop}(h:EvT X L a Q):EvW X L (.BoolOp .And [a] pos) Q:=λF B H R m k=>⟨_,jT xv,h F B H R m k⟩
def zC6 {Q:Bool->Prop}(h:EvT X L a Q):EvW X L (.BoolOp .Or [a] pos) Q:=λF B H R m k=>⟨_,zD3 xv,h F B H R m k⟩
theorem dw {Q:Bool->Prop}(h:EvT X L a λk=>if k=true then EvW X L (.BoolOp .And (b::rest) pos) Q else Q false):EvW X L (.BoolOp .And (a::b::rest) pos) Q:=λF B H R m k=>by
 refine⟨_,zd9 xv jG,h F B H _ m λc H1 f t1 d=>?_⟩;cases c with
 |true=>exact tO ((by simpa using f:EvW X L _ Q) F B H1 R (m.kz d t1) λb j l g i=>k b j l g (d.trans i))
 |false=>exact tP (k _ H1 (by simpa using f) t1 d)
theorem zM7 {Q:Bool->Prop}(h:EvT X L a λk=>if k=true then Q true else EvW X L (.BoolOp .Or (b::rest) pos) Q):EvW X L (.BoolOp .Or (a::b::rest) pos) Q:=λF B H R m k=>by
 refine⟨_,zN3 xv jG,h F B H _ m λc H1 f t1 d=>?_⟩;cases c with
 |false=>exact tP ((by simpa using f:EvW X L _ Q) F B H1 R (m.kz d t1) λb j l g i=>k b j l g (d.trans i))
 |true=>exact tO (k _ H1 (by simpa using f) t1 d)
def aG {op}(h:EvD X L a Q):EvD X L (.BoolOp op [a] pos) Q:=λF B H R m k=>⟨_,zC7 zf,h F B H R m k⟩
theorem zI6 (h:EvD X L a λx=>∃k,x=.bool k/\if k=true then EvD X L (.BoolOp .And (b::rest) pos) Q else Q (.bool false)):EvD X L (.BoolOp .And (a::b::rest) pos) Q:=λF B H R m k=>by
 refine⟨_,zG5 zf zf,h F B H _ m λx s H1 f t1 g r=>?_⟩;obtain⟨c,rfl,f⟩:=f;cases r.bl_inv;refine⟨c,rfl,?_⟩;cases c with
 |true=>exact tO (by simpa using f F B H1 R (m.kz g t1) λd v n o i l j=>k d v n o i (g.trans l) j)
 |false=>exact tP (k _ _ H1 (by simpa using f) t1 g (.bl _))
theorem zR0 (h:EvD X L a λx=>∃k,x=.bool k/\if k=true then Q (.bool true)else EvD X L (.BoolOp .Or (b::rest) pos) Q):EvD X L (.BoolOp .Or (a::b::rest) pos) Q:=λF B H R m k=>by
 refine⟨_,zN6 zf zf,h F B H _ m λx s H1 f t1 g r=>?_⟩;obtain⟨c,rfl,f⟩:=f;cases r.bl_inv;refine⟨c,rfl,?_⟩;cases c with
 |false=>exact tP (by simpa using f F B H1 R (m.kz g t1) λd v n o i l j=>k d v n o i (g.trans l) j)
 |true=>exact tO (k _ _ H1 (by simpa using f) t1 g (.bl _))
def cK (h:EvD X L a λx=>∃k,x=.bool k/\Q (.bool (!k))):EvD X L (.UnaryOp .Not a pos) Q:=λF B H R m k=>by
 refine⟨_,zI2 zf,h F B H _ m λx i H1 f t1 d g=>?_⟩;obtain⟨c,rfl,q⟩:=f;cases g.bl_inv;exact⟨c,rfl,k _ _ H1 q t1 d (.bl _)⟩
theorem ja (h:EvT X L c λk=>if k=true then EvD X L a Q else EvD X L b Q):EvD X L (.IfExp c a b pos) Q:=λF B H R m k=>by
 refine⟨_,bC xv zf zf,h F B H _ m λx H1 o t1 f=>?_⟩;cases x with
 |true=>exact tO (by simpa using o F B H1 R (m.kz f t1) λd v l n g j i=>k d v l n g (f.trans j) i)
 |false=>exact tP (by simpa using o F B H1 R (m.kz f t1) λd v l n g j i=>k d v l n g (f.trans j) i)
def xS (j:pP b)(h:EvD X L a λx=>EvD X L b λy=>∃ds i d,x=.tuple ds/\y=.int i/\atI ds i=some d/\Q d):EvD X L (.Subscript a b pos) Q:=by
 refine uS (yB zc9 zf zf j) (λ_ _ _=>Iff.rfl) (h.imp λx h=>h.imp λy f=>?_);obtain⟨ds,i,d,e1,l,g,hq⟩:=f;subst e1 l;intro F B H s t R m r o k;obtain⟨a,xs,rfl,h1,h2⟩:=r.tup_inv;cases o.int_inv;obtain⟨v,n,av⟩:=h2.atI g;exact⟨a,xs,i,v,rfl,rfl,SqT.of (zc h1).2,n,k d v H hq m.tp Kz.refl av⟩
def EvO (X:Cx)(L:Ev)(e:Option Ak)(Q:Option Int->Prop):Prop:=∀(F:Fr) (B:St) (H:Hp) (R:Option Int->Hp->Prop),M F L B H->(∀i H',Q i->zK F H'->Kz F H H'->R i H')->∃t,PO X e t/\t B H R
def zV7 (X:Cx)(e:Option Ak):TO:=λB H Q=>∃t,PO X e t/\t B H Q
def tR {e:Option Ak}:PO X e (zV7 X e):=λpins s B H Q I d=>by obtain⟨t,p,q⟩:=d;exact p pins s B H Q I q
def zh8 {Q:Option Int->Prop}(q:Q none):EvO X L none Q:=λF B H R m k=>⟨_,pN,k _ H q m.tp Kz.refl⟩
def zp1 {Q:Option Int->Prop}(h:EvD X L a λx=>∃i,x=.int i/\Q (some i)):EvO X L (some a) Q:=λF B H R m k=>by
 refine⟨_,sf zf,h F B H _ m λx j H1 f t1 d g=>?_⟩;obtain⟨i,rfl,q⟩:=f;cases g.int_inv;exact⟨i,rfl,k _ H1 q t1 d⟩
def M.lay {F:Fr}{B:St}{H:Hp}{l:Ae}{xs:List V}{ds:List Aa}(m:M F L B H)(d:H l=none)(h:AVs (Gz F L B H) xs ds):zK F (upd H l (.lst xs))/\Kz F H (upd H l (.lst xs))/\yM F L B H (.ref l) (upd H l (.lst xs)) ds:=by
 refine⟨m.tp.same (zH d),Kz.of_same (zH d),l,xs,rfl,d,zg,h.same (zq λa o ha e=>?_)⟩;have:=zj e d;exact⟨⟨ha,this⟩,by rw[zd this];exact e⟩
theorem cL {lo hi:Option Ak}{Q:List Aa->Prop}(h:EvD X L a λx=>EvO X L lo λl=>EvO X L hi λu=>∃ds,x=.list ds/\Q (cutD ds l u)):EvL X L (.Subscript a (.Slice lo hi none p) pos) Q:=λF B H R m k=>by
 refine⟨_,uB pE zf tR tR,h F B H _ m λx G H1 s t1 n w=>?_⟩;have m1:=m.kz n t1;refine s F B H1 _ m1 λl E v y j=>?_;have m2:=m1.kz j y;refine v F B E _ m2 λu I D t3 i=>?_;have m3:=m2.kz i t3;obtain⟨ds,rfl,q⟩:=D;obtain⟨a,xs,rfl,h1,h2⟩:=(w.same ((j.gz m1.tp).trans (i.gz m2.tp))).lst_inv;refine⟨a,xs,rfl,SqL.of (zc h1).2,λp A=>?_⟩;obtain⟨g1,g2,g3⟩:=m3.lay A (h2.cut l u);have r:=(n.trans j).trans i;obtain⟨f,d,e1,g,C,t⟩:=g3;refine k _ _ _ q g1 (r.trans g2) ⟨f,d,e1,?_,C,t⟩;cases z:H f with
 |none=>rfl
 |some o=>rw[r f o z (m.tp.nt (ow0 (m3.fresh g)))]at g;cases g
theorem yM.back {F:Fr}{B:St}{H H1 H':Hp}{v:V}{ds:List Aa}(m:M F L B H)(k:Kz F H H1)(t1:zK F H1)(h:yM F L B H1 v H' ds):yM F L B H v H' ds:=by
 obtain⟨f,d,e1,g,i,j⟩:=h;refine⟨f,d,e1,?_,i,j⟩;cases z:H f with
 |none=>rfl
 |some o=>rw[k f o z (m.tp.nt (ow0 ((m.kz k t1).fresh g)))]at g;cases g
def zA {Q:List A->Prop}(q:Q []):EvA X L [] Q:=λF B H R m k=>⟨_,zD,k _ _ H q m.tp Kz.refl .nil⟩
def zk {Q:List A->Prop}(h:EvD X L e λd=>EvA X L es λas=>Q (.dat d::as))(l:Af (e::es) X.env=(false,eval e X.env)::Af es X.env:=by rfl):EvA X L (e::es) Q:=λF B H R m k=>by
 refine⟨_,zr zf yD l,h F B H _ m λd v H1 j t1 f s=>?_⟩;have m1:=m.kz f t1;exact j F B H1 _ m1 λas vs o r i g n=>k _ _ o r i (f.trans g) (.cons (s.same (g.gz m1.tp)) n)
def oH {Q:List A->Prop}(i:Nat){x:Str}(hi:L[i]?=some (some .tape))(h:EvA X L es λas=>Q (.tape::as))(j:X.N[i]?=some x:=by rfl)(s:Vis X.env.scope x:=by first|exact Or.inl rfl|exact Or.inr (Or.inl rfl)|exact Or.inr (Or.inr rfl))
  (hd:(x == ("__debug__":Str))=false:=by decide) (d:(x == ("__classdict__":Str))=false:=by decide) (g:Af (.Name x pos::es) X.env=(false,eval (.Name x pos) X.env)::Af es X.env:=by rfl):EvA X L (.Name x pos::es) Q:=λF B H R m k=>by
 obtain⟨t,b,c,h1,h2⟩:=m.tvar i hi;exact⟨_,zr (xj j s hd d) yD g,.ref t,h2,h F B H _ m λas vs o r f n l=>k _ _ o r f n (.cons ⟨t,b,c,h1,rfl⟩ l)⟩
noncomputable def datas :List A->Option (List Aa)
 |[]=>some []
 |.dat d::r=>(datas r).map (d::·)
 |_::_=>none
theorem yp.datas {F:Fr}{G:Hp}{vs:List V}{as:List A}{ds:List Aa}(h:yp F G vs as)(e:L2.datas as=some ds):AVs G vs ds:=by
 induction h generalizing ds with
 |nil=>cases e;exact .nil
 |@cons _ _ a as h _ ih=>
  cases a with
  |dat d=>
   obtain⟨es,e1,rfl⟩:=z22.mp e;exact .cons h (ih e1)
  |tape=>cases e
  |_=>exact h.elim
def oK {n:Nat}(h:EvA X L es λas=>∃ds,datas as=some ds/\ds.length<=1000/\Q (.tuple ds)):EvD X L (.Tuple es n pos) Q:=λF B H R m k=>by
 refine⟨_,kD yD,h F B H _ m λas vs H1 i t1 f j=>?_⟩;obtain⟨ds,e,g,q⟩:=i;have r:=j.datas e;refine⟨by rw[r.length];exact z58 (yo g),λp d=>?_⟩;refine k _ _ _ q (t1.same (zH d)) (f.trans (Kz.of_same (zH d))) (.tup (zy ((m.kz f t1).fresh d) zg) (r.same (zq λa o ha e=>⟨ha,by rw[zd (zj e d)];exact e⟩)))
def yK {Q:List Aa->Prop}(h:EvA X L es λas=>∃ds,datas as=some ds/\ds.length<=1000/\Q ds):EvL X L (.List es pos) Q:=λF B H R m k=>by
 refine⟨_,zc6 yD,h F B H _ m λas vs H1 g t1 d j=>?_⟩;obtain⟨ds,e,f,q⟩:=g;have r:=j.datas e;refine⟨by rw[r.length];exact z58 (yo f),λp i=>?_⟩;obtain⟨g1,g2,g3⟩:=(m.kz d t1).lay i r;exact k _ _ _ q g1 (d.trans g2) (g3.back m d t1)
def wU {Q:List Aa->Prop}(h:EvD X L a λx=>EvD X L b λy=>∃ds es,x=.list ds/\y=.list es/\ds.length+es.length<=1000/\Q (ds++es)):EvL X L (.BinOp a .Add b pos) Q:=λF B H R m k=>by
 refine⟨_,ym zB0 zf zf,h F B H _ m λx t H1 j t1 f n=>?_⟩;have m1:=m.kz f t1;refine j F B H1 _ m1 λy u v l g d s=>?_;obtain⟨ds,es,rfl,rfl,o,q⟩:=l;obtain⟨a,xs,rfl,h1,h2⟩:=(n.same (d.gz m1.tp)).lst_inv;obtain⟨b,ys,rfl,h3,i⟩:=s.lst_inv;refine⟨a,b,xs,ys,rfl,rfl,(zc h1).2,(zc h3).2,by rw[h2.length,i.length];exact z58 (yo o),λp r=>?_⟩;obtain⟨g1,g2,g3⟩:=(m1.kz d g).lay r (h2.append i);exact k _ _ _ q g1 ((f.trans d).trans g2) (g3.back m (f.trans d) g)
def xy {id:String}{x:Str}{r:List V->Hp->VK->Prop}(l:yt X (.builtin id) r)(hg:Gl X x)(hm:X.mg x=none)(s:bootBuiltins x=some (.builtin id))
  (h:EvA X L (e::es) λas=>∀(F:Fr) (B:St) (H:Hp) (vs:List V) (R:VK),M F L B H->yp F (Gz F L B H) vs as->(∀d v H',Q d->zK F H'->Kz F H H'->AV (Gz F L B H') v d->R v H')->r vs H R)
  (hn:x≠"__name__":=by decide) (f:(x == ("__debug__":Str))=false:=by decide) (he:Af (e::es) X.env=(false,eval e X.env)::Af es X.env:=by rfl) (hpl:(backTo pos (Af es X.env)).any (·.1)=false:=by rfl):
  EvD X L (.Call (.Name x p) (e::es) [] pos) Q:=λF B H R m k=>by
 refine⟨_,yA l hg hm s yD hn f he hpl,h F B H _ m λas vs H1 j t1 g u=>?_⟩;exact j F B H1 vs R (m.kz g t1) u λd v H' t i o n=>k d v H' t i (g.trans o) n
end
section
variable {X:Cx}{L:Ev}{e a b c:Ak}{es:List Ak}{pos p q:Pos}{Q:Aa->Prop}
def yp.one {F:Fr}{G:Hp}{vs:List V}{d:Aa}(h:yp F G vs [.dat d]):∃v,vs=[v]/\AV G v d:=by
 cases h with|cons h r=>cases r;exact⟨_,rfl,h⟩
noncomputable def zU5 :Aa->Option Int
 |.list ds=>some ds.length
 |.tuple ds=>some ds.length
 |_=>none
theorem oX (hg:Gl X "len")(hm:X.mg "len"=none)(h:EvD X L e λx=>∃n,zU5 x=some n/\Q (.int n))(he:Af [e] X.env=(false,eval e X.env)::Af [] X.env:=by rfl):
  EvD X L (.Call (.Name "len" p) [e] [] pos) Q:=by
 refine xy yO hg hm yd4 (zk (h.imp λx d=>?_) he) (he:=he);obtain⟨n,e1,q⟩:=d;refine zA ?_;intro F B H vs R m f k;obtain⟨v,rfl,av⟩:=f.one;cases av with
 |lst h1 h2=>cases e1;rw[<-h2.length]at q;exact⟨_,_,rfl,.inl (SqL.of (zc h1).2),k _ _ H q m.tp Kz.refl (.int _)⟩
 |tup h1 h2=>cases e1;rw[<-h2.length]at q;exact⟨_,_,rfl,.inr (SqT.of (zc h1).2),k _ _ H q m.tp Kz.refl (.int _)⟩
 |_=>cases e1
def sA {T:String}{x:Str}{p1:Pos}(hg:Gl X "isinstance")(hm:X.mg "isinstance"=none)(i:Gl X x)(d:X.mg x=none)(o:bootBuiltins x=some (.type T))
  (h:EvD X L a λx=>∃k,x.hasDict=false/\zn4 T x=some k/\Q (.bool k)) (g:x≠"__name__":=by decide) (hdx:(x == ("__debug__":Str))=false:=by decide)
  (he:Af [a,.Name x p1] X.env=(false,eval a X.env)::Af [.Name x p1] X.env:=by rfl) (f:Af [.Name x p1] X.env=(false,eval (.Name x p1) X.env)::Af [] X.env:=by rfl) (hpl:(backTo pos (Af [.Name x p1] X.env)).any (·.1)=false:=by rfl):
  EvD X L (.Call (.Name "isinstance" p) [a,.Name x p1] [] pos) Q:=λF B H R m k=>by
 refine⟨_,yA gR hg hm boot_isinstance (zr zf (zr (zp7 i d o (show RelV (.ty T) (.type T)from rfl) g hdx) zD f) he) (he:=he),h F B H _ m λx n H1 l t1 j r=>?_⟩;obtain⟨b,hd,e,q⟩:=l;exact⟨n,T,x,b,rfl,(r.dv hd).same xD,e,k _ _ H1 q t1 j (.bl b)⟩
noncomputable def wD :Aa->Option (List Aa)
 |.list ds=>some ds
 |.tuple ds=>some ds
 |_=>none
theorem pG {Q:List Aa->Prop}(hg:Gl X "list")(hm:X.mg "list"=none)(h:EvD X L e λx=>∃ds,wD x=some ds/\Q ds)(he:Af [e] X.env=(false,eval e X.env)::Af [] X.env:=by rfl):
  EvL X L (.Call (.Name "list" p) [e] [] pos) Q:=λF B H R m k=>by
 refine⟨_,yw ur hg hm boot_list (zr zf zD he) (he:=he),?_⟩;refine h F B H _ m λx j H1 g t1 d i=>?_;obtain⟨ds,e1,q⟩:=g;have m1:=m.kz d t1;have fin:∀{xs:List V},AVs (Gz F L B H1) xs ds->∀l,H1 l=none->R (.ref l) (upd H1 l (.lst xs)):=λ{xs} h2 l f=>by
  obtain⟨g1,g2,g3⟩:=m1.lay f h2;exact k _ _ _ q g1 (d.trans g2) (g3.back m d t1)
 cases i with
 |lst h1 h2=>cases e1;exact⟨_,_,rfl,.inl (SqL.of (zc h1).2),fin h2⟩
 |tup h1 h2=>cases e1;exact⟨_,_,rfl,.inr (SqT.of (zc h1).2),fin h2⟩
 |_=>cases e1
theorem AVs.bools {H:Hp}{xs:List V}{bs:List Bool}(h:AVs H xs (bs.map .bool)):xs=bs.map V.bl:=by
 induction bs generalizing xs with
 |nil=>cases h;rfl
 |cons n ns f=>cases h with
  |cons h d=>rw[z27,f d,h.bl_inv]
def sP (f:X.calm=true)(hg:Gl X "all")(hm:X.mg "all"=none)(h:EvD X L e λx=>∃bs:List Bool,x=.list (bs.map .bool)/\Q (.bool (bs.all id)))(he:Af [e] X.env=(false,eval e X.env)::Af [] X.env:=by rfl):
  EvD X L (.Call (.Name "all" p) [e] [] pos) Q:=by
 refine xy (eU f) hg hm boot_all (zk (h.imp λx d=>?_) he) (he:=he);obtain⟨bs,e1,q⟩:=d;refine zA ?_;intro F B H vs R m g k;subst e1;obtain⟨v,rfl,av⟩:=g.one;obtain⟨a,xs,rfl,h1,h2⟩:=av.lst_inv;exact⟨a,bs,rfl,by rw[(zc h1).2,h2.bools],k _ _ H q m.tp Kz.refl (.bl _)⟩
def zd2 (f:X.calm=true)(hg:Gl X "any")(hm:X.mg "any"=none)(h:EvD X L e λx=>∃bs:List Bool,x=.list (bs.map .bool)/\Q (.bool (bs.any id)))(he:Af [e] X.env=(false,eval e X.env)::Af [] X.env:=by rfl):
  EvD X L (.Call (.Name "any" p) [e] [] pos) Q:=by
 refine xy (fR f) hg hm boot_any (zk (h.imp λx d=>?_) he) (he:=he);obtain⟨bs,e1,q⟩:=d;refine zA ?_;intro F B H vs R m g k;subst e1;obtain⟨v,rfl,av⟩:=g.one;obtain⟨a,xs,rfl,h1,h2⟩:=av.lst_inv;exact⟨a,bs,rfl,by rw[(zc h1).2,h2.bools],k _ _ H q m.tp Kz.refl (.bl _)⟩
def zm5 (f:X.A.guards=some [])(g:X.A.units+64<cLine)(hg:Gl X "repr")(hm:X.mg "repr"=none)(h:EvD X L e λx=>zS sizeLine x/\Q (.str x.shown))(he:Af [e] X.env=(false,eval e X.env)::Af [] X.env:=by rfl):
  EvD X L (.Call (.Name "repr" p) [e] [] pos) Q:=by
 refine xy (fA f g) hg hm boot_repr (zk (h.imp λx d=>?_) he) (he:=he);obtain⟨n,q⟩:=d;refine zA ?_;intro F B H vs R m i k;obtain⟨v,rfl,av⟩:=i.one;exact⟨v,x,rfl,(av.dv n.nod).same xD,n,k _ _ H q m.tp Kz.refl (.str _)⟩
section
variable {k:Nat}{f:Ae}{fd:Ap}{ps:List Str}{φ:List A->(A->Prop)->Prop}{x:Str}
def wz {F:Fr}{B:St}{H:Hp}{vs:List V}{as:List A}{g:A->Prop}{R:VK}(m:M F L B H)(i:yp F (Gz F L B H) vs as)(d:φ as g)
  (h:∀a v H',g a->uY ⟨H,Ow F L B,F.tp⟩ v H' a->R v H') {E:XK}:spA φ (vs++[]) H R E:=by
 refine⟨⟨H,Ow F L B,F.tp⟩,as,g,rfl,?_,?_,?_,d,h⟩
 .exact m.tp.to rfl λ_ z=>.inl z
 .exact λy z=>m.owEx z
 .rw[z73];exact yp.to (F:=F) (F':=⟨H,Ow F L B,F.tp⟩) (λ_ _ e=>e) rfl i
theorem uY.back {F:Fr}{B:St}{H H':Hp}{v:V}{a:A}(m:M F L B H)(h:uY ⟨H,Ow F L B,F.tp⟩ v H' a):zK F H'/\Kz F H H'/\AV (Gz F L B H') v a.d:=by
 obtain⟨t,kz,r⟩:=h;refine⟨m.tp.re t rfl,kz,?_⟩;cases a with
 |dat d=>exact r
 |ow c=>
  obtain⟨l,xs,ds,rfl,rfl,h1,h2,h3,j⟩:=r;exact .lst (zy h2 h3) (j.same (zq λa o h e=>⟨h.1,e⟩))
 |deep d S=>
  obtain⟨h1,h2⟩:=r;refine h1.same λx o e=>?_;rcases dC e with⟨n,g⟩|⟨_,g⟩
  .exact zy (h2 x n).1 g
  .exact g
 |tape=>exact r.elim
 |«at» _=>exact r.elim
 |exc _ _=>exact r.elim
 |pin _ _ _=>exact r.elim
 |nst l ls dss=>
  obtain⟨rfl,h2,h3,j,i⟩:=r;exact .lst (zy (i l z03).1 h2) (h3.avs (zq λa o h e=>⟨h.1,e⟩) λa ha=>(i a (z01 _ ha)).1)
def zo1 (G:yE X.prog X.w X.K X.mg X.base CX0 k f fd ps (spA φ))(hr:zR k X.A)(hg:Gl X x)(hm:X.mg x=some (.ref f))(hk:PySem.W.keepIn X.K (.ref f)=true)(hb:Binds X.K fd ps [])
  (h:EvA X L (e::es) λas=>φ as λa=>Q a.d) (g:(x == ("__debug__":Str))=false:=by decide) (he:Af (e::es) X.env=(false,eval e X.env)::Af es X.env:=by rfl) (hpl:(backTo pos (Af es X.env)).any (·.1)=false:=by rfl):
  EvD X L (.Call (.Name x p) (e::es) [] pos) Q:=λF B H R m o=>by
 refine⟨_,pS G hr hg hm hk hb .nil qN yD g he hpl,h F B H _ m λas vs H1 j t1 i r=>?_⟩;have m1:=m.kz i t1;refine wz m1 r j λa v H' n l=>?_;obtain⟨g1,g2,g3⟩:=l.back m1;exact o _ v H' n g1 (i.trans g2) g3
def zs5 {Q:List Aa->Prop}(G:yE X.prog X.w X.K X.mg X.base CX0 k f fd ps (spA φ))(hr:zR k X.A)(hg:Gl X x)(hm:X.mg x=some (.ref f))(hk:PySem.W.keepIn X.K (.ref f)=true)(hb:Binds X.K fd ps [])
  (h:EvA X L (e::es) λas=>φ as λa=>∃ds,a=.own ds/\Q ds) (g:(x == ("__debug__":Str))=false:=by decide) (he:Af (e::es) X.env=(false,eval e X.env)::Af es X.env:=by rfl) (hpl:(backTo pos (Af es X.env)).any (·.1)=false:=by rfl):
  EvL X L (.Call (.Name x p) (e::es) [] pos) Q:=λF B H R m n=>by
 refine⟨_,pS G hr hg hm hk hb .nil qN yD g he hpl,h F B H _ m λas vs H1 j t1 d r=>?_⟩;have m1:=m.kz d t1;refine wz m1 r j λa v H' s i=>?_;obtain⟨ds,rfl,q⟩:=s;obtain⟨g1,g2,_⟩:=i.back m1;obtain⟨_,_,l,xs,t,rfl,o,h1,h2,h3,u⟩:=i;cases o;exact n ds _ H' q g1 (d.trans g2) (yM.back m d t1 ⟨l,xs,rfl,h1,h3,u⟩)
end
def sJ {i j:Nat}{x:Option A}(h:i≠j):(L.set i x)[j]?=L[j]?:=z68 h
def zL {i:Nat}{x:Option A}{j:Nat}{y:Option A}(h:(L.set i x)[j]?=some y):(i=j/\x=y)\/(i≠j/\L[j]?=some y):=by
 by_cases d:i=j
 .subst d;left;have f:i<L.length:=by
   have:=(zZ6.mp h).1
   rwa [z62]at this
  rw[ya9 f]at h;exact⟨rfl,z34 h⟩
 .right;rw[z68 d]at h;exact⟨d,h⟩
def M.put {F:Fr}{B:St}{H:Hp}{i:Nat}{b:Option A}(m:M F L B H)(hf:∀s c x,B[i]?=some s->b=some c->foot s c x->∃a,L[i]?=some (some a)/\foot s a x)
  (hok:∀s c,i<L.length->B[i]?=some s->b=some c->vH (Gz F (L.set i b) B H) F H s c) (C:∀c,b=some c->noX c:=by intro c z;cases z;trivial):zz (Gz F L B H) (Gz F (L.set i b) B H)/\M F (L.set i b) B H:=by
 have v:zz (Gz F L B H) (Gz F (L.set i b) B H):=zq λa o h e=>⟨λz=>h (by
  rcases z with z|⟨j,c,s,e1,g,f⟩
  .exact .inl z
  .rcases zL e1 with⟨rfl,z⟩|⟨w,n⟩
   .obtain⟨u,h1,h2⟩:=hf s c a g z f;exact .inr ⟨i,u,s,h1,g,h2⟩
   .exact .inr ⟨j,c,s,n,g,f⟩),e⟩
 have old:∀{j:Nat} {c:A} {s:Option V} {x:Ae},(L.set i b)[j]?=some (some c)->B[j]?=some s->foot s c x->∃a,L[j]?=some (some a)/\foot s a x:=λ{j c s x} e1 g f=>by
  rcases zL e1 with⟨rfl,z⟩|⟨w,n⟩
  .exact hf s c x g z f
  .exact⟨c,n,f⟩
 refine⟨v,by rw[z62];exact m.len,λj c s e1 g=>?_,λj k c d s t x e1 g h1 h2 f1 f2=>?_,λj r q e y c s x e1 g f=>?_,m.tp,m.keep,m.oex⟩
 .rcases zL e1 with⟨rfl,z⟩|⟨w,n⟩
  .refine hok s c ?_ g z;have:=(zZ6.mp e1).1
   rwa [z62]at this
  .exact(m.ok j c s n g).stay v (λx o f e=>⟨e,(m.ft n g f).1,(m.ft n g f).2.1⟩) rfl λ_ _ _ l=>l
 .obtain⟨u,g1,g2⟩:=old e1 h1 f1;obtain⟨D,g3,E⟩:=old g h2 f2;exact m.dj j k u D s t x g1 g3 h1 h2 g2 E
 .obtain⟨u,g1,g2⟩:=old e1 g f;rcases zL e with⟨rfl,z⟩|⟨_,G⟩
  .exact(C _ z).elim
  .exact m.xd j r q G y u s x g1 g g2
def M.gave {F:Fr}{B:St}{H:Hp}{i:Nat}{a:A}{s:Option V}{b:Option A}{x:Ae}(m:M F L B H)(e1:L[i]?=some (some a))(d:B[i]?=some s)(f:foot s a x)(hb:∀c,b=some c->¬foot s c x):¬Ow F (L.set i b) B x:=by
 rintro(z|⟨j,c,t,h1,h2,g⟩)
 .exact(m.ft e1 d f).1 z
 .rcases zL h1 with⟨rfl,z⟩|⟨k,h⟩
  .rw[d]at h2;cases h2;exact hb c z g
  .exact k (m.dj i j a c s t x e1 h d h2 f g)
def cU {F:Fr}{B:St}{H:Hp}{i:Nat}{b:A}(hb:∀s x,¬foot s b x):zz (Gz F L B H) (Gz F (L.set i (some b)) B H):=zq λa o h e=>⟨λz=>h (by
 rcases z with z|⟨j,c,s,e1,g,f⟩
 .exact .inl z
 .rcases zL e1 with⟨rfl,z⟩|⟨k,d⟩
  .cases z;exact(hb _ _ f).elim
  .exact .inr ⟨j,c,s,d,g,f⟩),e⟩
def M.frz {F:Fr}{B:St}{H:Hp}{i:Nat}{ds:List Aa}(m:M F L B H)(hi:L[i]?=some (some (.own ds))):M F (L.set i (some (.dat (.list ds)))) B H:=
 (m.put (λs c' x _ z f=>by cases z;exact f.elim) λs c' _ d z=>by
  cases z;obtain⟨l,o,h1,h2,h3,h,g⟩:=m.owc i _ hi;rw[h1]at d;cases d;exact⟨.ref l,rfl,(h3.same (cU (b:=.dat (.list ds)) λ_ _ f=>f)).av (zy (m.gave hi h1 rfl λc z=>by cases z;exact id) h2)⟩).2
def dF {F:Fr}{B:St}{H H':Hp}{i:Nat}{a:A}{b:Option A}(m:M F L B H)(k:Kz F H H')(hi:L[i]?=some (some a))(x:Ae)(o:HO)(n:¬Ob o)(h:Gz F (L.set i b) B H' x=some o):Gz F L B H' x=some o:=by
 obtain⟨h1,h2⟩:=zc h;refine zy ?_ h2;rintro(z|⟨j,c,s,e1,d,f⟩)
 .exact h1 (.inl z)
 .by_cases g:i=j
  .subst g;obtain⟨g1,g2,o',g3,l⟩:=m.ft e1 d f;rw[k _ _ g3 (m.tp.nt g1)]at h2;cases h2;exact n l
  .exact h1 (.inr ⟨j,c,s,by rw[sJ g];exact e1,d,f⟩)
def jd {Q:List Aa->Prop}{i:Nat}{a:A}{b:Option A}(hi:L[i]?=some (some a))(hm:∀F B H,M F L B H->M F (L.set i b) B H)(h:EvL X (L.set i b) e λd=>wY d=true/\Q d):EvL X L e Q:=λF B H R m k=>
 h F B H R (hm F B H m) λd v H' q t kz r=>by
  obtain⟨l,xs,h1,h2,h3,o⟩:=r;refine k d v H' q.2 t kz ⟨l,xs,h1,h2,h3,o.noL (λa ys hno z=>?_) q.1⟩;obtain⟨f,n⟩:=zc z;obtain⟨g,j⟩:=zc (dF m kz hi a ys hno (zy f.1 n));exact zy ⟨g,f.2⟩ j
def oS (i:Nat){ds:List Aa}(hi:L[i]?=some (some (.own ds)))(h:EvD X (L.set i (some (.dat (.list ds)))) e λd=>noL d=true/\Q d):EvD X L e Q:=λF B H R m k=>
 h F B H R (m.frz hi) λd v H' q t kz r=>k d v H' q.2 t kz (r.noL (dF m kz hi) q.1)
def jJ {Q:Bool->Prop}(i:Nat){ds:List Aa}(hi:L[i]?=some (some (.own ds)))(h:EvT X (L.set i (some (.dat (.list ds)))) e Q):EvT X L e Q:=λF B H R m k=>h F B H R (m.frz hi) k
def ip {Q:List Aa->Prop}(i:Nat){ds:List Aa}(hi:L[i]?=some (some (.own ds)))(h:EvL X (L.set i (some (.dat (.list ds)))) e λd=>wY d=true/\Q d):EvL X L e Q:=jd hi (λ_ _ _ m=>m.frz hi) h
def ItW (p:Ae->Prop)(J:It)(ds:List Aa)(G:Hp):Prop:=∀(i:Nat) (f:Hp) (q:Ae->Prop),zz G (sub q f)->
 (∀d,ds[i]?=some d->J.go i f/\∀x g,J.yld i f x g->zz f g/\((∀a o,g a=some o->f a=none->q a)->AV (sub q g) x d))/\(ds.length<=i->J.stop i f)
def zH1 (X:Cx)(tg e:Ak):TI:=λB H R=>∃t,PI X tg e t/\t B H R
def oz {tg e:Ak}:PI X tg e (zH1 X tg e):=λpins s B H R I d=>by obtain⟨t,p,q⟩:=d;exact p pins s B H R I q
def EvI (X:Cx)(L:Ev)(tg e:Ak)(Q:List Aa->Prop):Prop:=∀(F:Fr) (B:St) (H:Hp) (R:It->Hp->Prop),M F L B H->
 (∀ds J H',Q ds->zK F H'->Kz F H H'->ItW (λx=>¬Ow F L B x) J ds (Gz F L B H')->R J H')->zH1 X tg e B H R
def zW {tg:Ak}{Q:List Aa->Prop}(h:EvD X L e λx=>∃ds,x=.list ds/\Q ds):EvI X L tg e Q:=λF B H R m k=>by
 refine⟨_,jI zf,h F B H _ m λx o H1 j t1 g l=>?_⟩;obtain⟨ds,rfl,q⟩:=j;obtain⟨a,xs,rfl,h1,h2⟩:=l.lst_inv;refine⟨a,rfl,⟨xs,SqL.of (zc h1).2⟩,k ds _ H1 q t1 g λi u p s=>⟨λd hd=>?_,λn=>?_⟩⟩
 .obtain⟨x,f,av⟩:=h2.get hd;have ha:=SqL.of (K:=X.K) (zc (s _ _ h1)).2;refine⟨⟨xs,x,ha,f⟩,λt r y=>?_⟩;obtain⟨e,y⟩:=y;subst e;have:=y xs ha;rw[f]at this;cases this;exact⟨zz.refl _,λ_=>av.same s⟩
 .exact⟨xs,SqL.of (zc (s _ _ h1)).2,by rw[h2.length];exact n⟩
def ph {p:Ae->Prop}{lo:Int}{n:Nat}{G:Hp}:ItW p (Itr lo n) ((zo lo n).map .int) G:=λi h q s=>⟨λd hd=>by
  rw[z04,z22]at hd;obtain⟨z,h1,rfl⟩:=hd;have hi:i<n:=by
   have:=(zZ6.mp h1).1
   rwa [zb]at this
  rw[zE hi]at h1;cases h1;refine⟨hi,λx g y=>?_⟩;obtain⟨rfl,rfl⟩:=y;exact⟨zz.refl _,λ_=>.int _⟩,λf=>by
  rw[zZ2,zb]at f;exact f⟩
def xx {tg:Ak}{Q:List Aa->Prop}(hg:Gl X "range")(hm:X.mg "range"=none)(h:EvD X L a λx=>∃j,x=.int j/\-(2 ^ 62)<=j/\j<2 ^ 62/\Q ((zo 0 j.toNat).map .int))(d:Af [a] X.env=[(false,eval a X.env)]:=by rfl):
  EvI X L tg (.Call (.Name "range" p) [a] [] pos) Q:=λF B H R m k=>by
 refine⟨_,eW hg hm (zr zf zD d) d,h F B H _ m λx o H1 i t1 g n=>?_⟩;obtain⟨j,rfl,l,f,q⟩:=i;cases n.int_inv;exact⟨j,rfl,l,f,k _ _ H1 q t1 g ph⟩
def yJ {tg:Ak}{Q:List Aa->Prop}(hg:Gl X "range")(hm:X.mg "range"=none)(h:EvD X L a λx=>EvD X L b λy=>∃i j,x=.int i/\y=.int j/\(-(2 ^ 62)<=i/\i<2 ^ 62/\-(2 ^ 62)<=j/\j<2 ^ 62)/\Q ((zo i (j-i).toNat).map .int))
  (o:Af [a,b] X.env=[(false,eval a X.env),(false,eval b X.env)]:=by rfl) (d:Af [b] X.env=[(false,eval b X.env)]:=by rfl) (f:Af [a,b] X.env=(false,eval a X.env)::Af [b] X.env:=by rfl):
  EvI X L tg (.Call (.Name "range" p) [a,b] [] pos) Q:=λF B H R m k=>by
 refine⟨_,gu hg hm (zr zf (zr zf zD d) f) o d,h F B H _ m λx z H1 n t1 g w=>?_⟩;refine n F B H1 _ (m.kz g t1) λy A t u l s r=>?_;obtain⟨i,j,rfl,rfl,v,q⟩:=u;cases w.int_inv;cases r.int_inv;exact⟨i,j,rfl,v,k _ _ t q l (g.trans s) ph⟩
end
inductive Pat where
 |one (i:Nat)
 |many (is:List Nat)
 |nest (i:Nat) (is:List Nat)
noncomputable def xM :List Nat->List Aa->Ev->Option Ev
 |[],[],L=>some L
 |i::is,d::ds,L=>xM is ds (L.set i (some (.dat d)))
 |_,_,_=>none
noncomputable def Pat.bind :Pat->Aa->Ev->Option Ev
 |.one i,d,L=>some (L.set i (some (.dat d)))
 |.many is,.tuple ds,L=>xM is ds L
 |.nest i is,.tuple [d,.tuple ds],L=>xM is ds (L.set i (some (.dat d)))
 |_,_,_=>none
def gIs :List Nat->TGs
 |[]=>zG3
 |i::is=>jH (pd i) (gIs is)
def lh (K:Ac):Pat->TG
 |.one i=>pd i
 |.many is=>cp K is.length (gIs is)
 |.nest i is=>cp K 2 (jH (pd i) (jH (cp K is.length (gIs is)) zG3))
noncomputable def Pat.slots :Pat->List Nat
 |.one i=>[i]
 |.many is=>is
 |.nest i is=>i::is
noncomputable def isFree (L:Ev)(i:Nat):Bool:=match L[i]? with
 |some none=>true
 |_=>false
noncomputable def Pat.free (p:Pat)(L:Ev):Bool:=p.slots.all (isFree L)
section
variable {X:Cx}{L α':Ev}{F:Fr}{B:St}{H:Hp}
def M.store {i:Nat}{v:V}{b:A}{H':Hp}(m:M F L B H)(t:zK F H')(k:Kz F H H')(hn:∀x,foot (some v) b x->H x=none)(hok:vH (sub (λx=>¬Ow F L B x/\¬foot (some v) b x) H') F H' (some v) b)(P:noX b:=by trivial):M F (L.set i (some b)) (B.set i (some v)) H':=by
 have E:∀{j:Nat} {c:A} {s:Option V},(L.set i (some b))[j]?=some (some c)->(B.set i (some v))[j]?=some s->(i=j/\c=b/\s=some v)\/(i≠j/\L[j]?=some (some c)/\B[j]?=some s):=λ{j c s} e1 n=>by
  rcases zL e1 with⟨rfl,z⟩|⟨J,I⟩
  .cases z;have O:i<B.length:=by
    have:=(zZ6.mp n).1
    rwa [z62]at this
   rw[ya9 O]at n;cases n;exact .inl ⟨rfl,rfl,rfl⟩
  .rw[z68 J]at n;exact .inr ⟨J,I,n⟩
 have ow:∀{y:Ae},Ow F (L.set i (some b)) (B.set i (some v)) y->Ow F L B y\/foot (some v) b y:=λ{y} h=>by
  rcases h with z|⟨j,c,s,e1,n,f⟩
  .exact .inl (.inl z)
  .rcases E e1 n with⟨_,rfl,rfl⟩|⟨_,g1,g2⟩
   .exact .inr f
   .exact .inl (.inr ⟨j,c,s,g1,g2,f⟩)
 have g1:zz (sub (λx=>¬Ow F L B x/\¬foot (some v) b x) H') (Gz F (L.set i (some b)) (B.set i (some v)) H'):=zq λa o h e=>⟨λz=>(ow z).elim h.1 h.2,e⟩;have N:zz (Gz F L B H) (sub (λx=>¬Ow F L B x/\¬foot (some v) b x) H'):=zq λa o h e=>⟨⟨h,λz=>by rw[hn a z]at e;cases e⟩,k a o e (m.tp.nt (ow0 h))⟩;refine⟨by rw[z62,z62];exact m.len,λj c s e1 n=>?_,λj G c d s s' x e1 n h1 h2 f1 f2=>?_,λj r q e G c s x e1 n f=>?_,t,m.keep.trans k,(m.kz k t).oex⟩
 .rcases E e1 n with⟨rfl,rfl,rfl⟩|⟨_,p,u⟩
  .exact hok.stay g1 (λx o f e=>by
    obtain⟨C,D,_⟩:=pL hok f;exact⟨e,C,D⟩) rfl λ_ _ _ l=>l
  .exact(m.ok j c s p u).stay (N.trans g1) (λx o f e=>by
    obtain⟨C,D,_⟩:=m.ft p u f;exact⟨k x o e (m.tp.nt C),C,D⟩) rfl λ_ _ _ l=>l.kz k t
 .have nn:∀{j:Nat} {c:A} {s:Option V},L[j]?=some (some c)->B[j]?=some s->foot s c x->¬foot (some v) b x:=λ{j c s} p u f g=>by
   obtain⟨_,_,o,w,_⟩:=m.ft p u f;rw[hn x g]at w;cases w
  rcases E e1 h1 with⟨rfl,rfl,rfl⟩|⟨_,p,u⟩
  .rcases E n h2 with⟨rfl,_⟩|⟨_,C,D⟩
   .rfl
   .exact absurd f1 (nn C D f2)
  .rcases E n h2 with⟨rfl,rfl,rfl⟩|⟨_,C,D⟩
   .exact absurd f2 (nn p u f1)
   .exact m.dj j G c d s s' x p C u D f1 f2
 .rcases zL e with⟨rfl,z⟩|⟨_,K⟩
  .cases z;exact P.elim
  .rcases E e1 n with⟨rfl,rfl,rfl⟩|⟨_,p,u⟩
   .exact(m.lnk K).none (hn x f)
   .exact m.xd j r q K G c s x p u f
theorem M.set {i:Nat}{v:V}{d:Aa}(m:M F L B H)(av:AV (Gz F L B H) v d):M F (L.set i (some (.dat d))) (B.set i (some v)) H:=
 m.store m.tp Kz.refl (λx z=>z.elim) ⟨v,rfl,av.same (zq λa o h e=>⟨⟨h,λz=>z⟩,e⟩)⟩
def M.setC {i:Nat}{v:V}{c:Aa}{H':Hp}(m:M F L B H)(t:zK F H')(k:Kz F H H')(d:lu F L B H v H' c):M F (L.set i (some (.ow c))) (B.set i (some v)) H':=by
 obtain⟨l,o,rfl,h1,h2,h3⟩:=d;have nl:=m.fresh h1;refine m.store t k (λx z=>?_) ⟨l,o,rfl,h2,h3.same (zq λa o h e=>⟨⟨h.1,λz=>h.2 (by cases z;rfl)⟩,e⟩),ow0 nl,m.fresh0 h1⟩;have b:=z;cases b;exact h1
def M.setOwn {i:Nat}{v:V}{ds:List Aa}{H':Hp}(m:M F L B H)(t:zK F H')(k:Kz F H H')(a:yM F L B H v H' ds):M F (L.set i (some (.own ds))) (B.set i (some v)) H':=m.setC t k a.c
def M.wr {x:Ae}{o:HO}(m:M F L B H)(hno:wJ o)(v:F.O0 x)(g:∀t b c,F.tp=some (t,b,c)->x≠t/\x≠b/\x≠c)(h0:F.H0 x=none)(hpl:Plain H x)(w:∀(i:Nat) r q,L[i]?=some (some (.exc r q))->r.H0 x=none):M F L B (upd H x o):=by
 have C:zz (Gz F L B H) (Gz F L B (upd H x o)):=zq λa u h e=>⟨h,by rw[zd (λz=>h (.inl (by rw[z];exact v)))];exact e⟩;refine⟨m.len,λj c s e1 p=>?_,m.dj,m.xd,m.tp.upd g hpl,λy u e n=>?_,λy hy=>?_⟩
 .have:=m.ok j c s e1 p;cases c with
  |exc r q=>
   have l:=this;exact⟨l.tp,l.o,l.ok.upd (λa b c e=>g a b c (l.tp▸e)) hpl,λy u e n=>by rw[zd (zj e (w j r q e1))];exact l.k y u e n⟩
  |_=>exact this.stay C (λy u f e=>by
    obtain⟨d,D,_⟩:=m.ft e1 p f;exact⟨by rw[zd (λz=>d (by rw[z];exact v))];exact e,d,D⟩) rfl λ_ _ z=>by cases z
 .rw[zd (zj e h0)];exact m.keep y u e n
 .by_cases z:y=x
  .exact⟨o,by rw[z];exact zg,hno⟩
  .obtain⟨u,A,hn⟩:=m.oex y hy;exact⟨u,by rw[zd z];exact A,hn⟩
def M.forget {b:Ev}(m:M F L B H)(n:b.length=L.length)(le:∀(i:Nat) a,b[i]?=some (some a)->L[i]?=some (some a)):M F b B H:=by
 have ow:∀{y:Ae},Ow F b B y->Ow F L B y:=λ{y} h=>by
  rcases h with z|⟨j,c,s,e1,g,f⟩
  .exact .inl z
  .exact .inr ⟨j,c,s,le _ _ e1,g,f⟩
 have p:zz (Gz F L B H) (Gz F b B H):=zq λa o h e=>⟨λz=>h (ow z),e⟩;exact⟨n.trans m.len,λj c s e1 g=>(m.ok j c s (le _ _ e1) g).stay p (λx o f e=>⟨e,(m.ft (le _ _ e1) g f).1,(m.ft (le _ _ e1) g f).2.1⟩) rfl λ_ _ _ l=>l,λj k c d s s' x e1 g=>m.dj j k c d s s' x (le _ _ e1) (le _ _ g),λj r q e k c s x e1=>m.xd j r q (le _ _ e) k c s x (le _ _ e1),m.tp,m.keep,m.oex⟩
theorem uQ {H:Hp}:∀{is:List Nat}{ds:List Aa}{L α':Ev}{B:St}{xs:List V}{R:St->Hp->Prop},xM is ds L=some α'->M F L B H->(∀G,zz (Gz F L B H) G->AVs G xs ds)->(∀b,M F α' b H->R b H)->gIs is xs B H R
 |[],[],L,α',B,xs,R,e,m,av,k=>by
  cases e;cases av _ (zz.refl _);exact⟨rfl,k B m⟩
 |i::is,d::ds,L,α',B,xs,R,e,m,av,k=>by
  cases h:av _ (zz.refl _)with
  |@cons x xs _ _ h1 h2=>
   refine⟨x,xs,rfl,?_⟩;have n:zz (Gz F L B H) (Gz F (L.set i (some (.dat d))) (B.set i (some x)) H):=zq λa o h e=>⟨λz=>h (by
    rcases z with z|⟨j,c,s,e1,l,f⟩
    .exact .inl z
    .rcases zL e1 with⟨_,z⟩|⟨p,g⟩
     .cases z;exact f.elim
     .rw[z68 p]at l;exact .inr ⟨j,c,s,g,l,f⟩),e⟩
   exact uQ e (m.set h1) (λG s=>h2.same (n.trans s)) k
 |[],_::_,_,_,_,_,_,e,_,_,_=>by cases e
 |_::_,[],_,_,_,_,_,e,_,_,_=>by cases e
theorem Pat.nest_inv {i:Nat}{is:List Nat}{d:Aa}(e:(Pat.nest i is).bind d L=some α'):∃a ds,d=.tuple [a,.tuple ds]/\xM is ds (L.set i (some (.dat a)))=some α':=by
 cases d with
 |tuple xs=>
  cases xs with
  |nil=>cases e
  |cons a r=>
   cases r with
   |nil=>cases e
   |cons b r=>
    cases r with
    |nil=>
     cases b with
     |tuple ds=>exact⟨_,_,rfl,e⟩
     |_=>cases e
    |cons _ _=>cases b<;>cases e
 |_=>cases e
theorem qO :∀{is:List Nat}{ds:List Aa}{L α':Ev},xM is ds L=some α'->ds.length=is.length:=by
 intro is
 induction is with
 |nil=>intro ds L α' h;cases ds with|nil=>rfl|cons _ _=>cases h
 |cons i is a=>intro ds L α' h;cases ds with|nil=>cases h|cons d ds=>rw[z28,z28,a h]
theorem iW {K:Ac}{pat:Pat}{d:Aa}{v:V}{R:St->Hp->Prop}(e:pat.bind d L=some α')(m:M F L B H)(av:AV (Gz F L B H) v d)(k:∀g,M F α' g H->R g H):lh K pat v B H R:=by
 cases pat with
 |one i=>cases e;exact k _ (m.set av)
 |many is=>
  cases d with
  |tuple ds=>
   obtain⟨a,xs,rfl,h1,h2⟩:=av.tup_inv;exact⟨a,xs,rfl,SqT.of (zc h1).2,by rw[h2.length];exact qO e,uQ e m (λG s=>h2.same s) k⟩
  |_=>cases e
 |nest i is=>
  obtain⟨t,ds,rfl,e⟩:=Pat.nest_inv e;obtain⟨a,xs,rfl,h1,h2⟩:=av.tup_inv;cases h2 with
  |@cons x0 r _ _ z1 z2=>
   cases z2 with
   |@cons x1 r _ _ z3 z4=>
    cases z4;have q:zz (Gz F L B H) (Gz F (L.set i (some (.dat t))) (B.set i (some x0)) H):=zq λa o h e=>⟨λz=>h (by
     rcases z with z|⟨j,c,s,e1,n,f⟩
     .exact .inl z
     .rcases zL e1 with⟨_,z⟩|⟨w,l⟩
      .cases z;exact f.elim
      .rw[z68 w]at n;exact .inr ⟨j,c,s,l,n,f⟩),e⟩
    obtain⟨b,ys,rfl,u,p⟩:=(z3.same q).tup_inv;exact⟨a,_,rfl,SqT.of (zc h1).2,rfl,_,_,rfl,_,_,rfl,⟨b,ys,rfl,SqT.of (zc u).2,by rw[p.length];exact qO e,uQ e (m.set z1) (λG s=>p.same s) λg x=>⟨rfl,k g x⟩⟩⟩
theorem rf :∀{is:List Nat}{ds:List Aa}{L α':Ev},xM is ds L=some α'->α'.length=L.length
 |[],[],_,_,e=>by cases e;rfl
 |i::is,d::ds,L,α',e=>by
  have:=rf (is:=is) e
  rwa [z62]at this
 |[],_::_,_,_,e=>by cases e
 |_::_,[],_,_,e=>by cases e
theorem sY :∀{is:List Nat}{ds:List Aa}{L α':Ev}{j:Nat},xM is ds L=some α'->j∉is->α'[j]?=L[j]?
 |[],[],_,_,_,e,_=>by cases e;rfl
 |i::is,d::ds,L,α',j,e,h=>by
  rw[sY (is:=is) (ds:=ds) e λz=>h (z01 _ z)];exact z68 λ(z:i=j)=>h (by rw[<-z];exact z03)
 |[],_::_,_,_,_,e,_=>by cases e
 |_::_,[],_,_,_,e,_=>by cases e
theorem sH :∀{is:List Nat}{ds:List Aa}{L α':Ev}{j:Nat}{a:A},xM is ds L=some α'->α'[j]?=some (some a)->(∀d,a≠.dat d)->L[j]?=some (some a)
 |[],[],_,_,_,_,e,h,_=>by cases e;exact h
 |i::is,d::ds,L,α',j,a,e,h,hn=>by
  rcases zL (sH (is:=is) (ds:=ds) e h hn)with⟨_,z⟩|⟨_,z⟩
  .cases z;exact absurd rfl (hn d)
  .exact z
 |[],_::_,_,_,_,_,e,_,_=>by cases e
 |_::_,[],_,_,_,_,e,_,_=>by cases e
theorem Pat.is_ok {pat:Pat}{d:Aa}(e:pat.bind d L=some α'):∃is ds,pat.slots=is/\xM is ds L=some α':=by
 cases pat with
 |one i=>cases e;exact⟨_,[d],rfl,rfl⟩
 |many is=>
  cases d with
  |tuple ds=>exact⟨_,ds,rfl,e⟩
  |_=>cases e
 |nest i is=>
  obtain⟨a,ds,rfl,e⟩:=Pat.nest_inv e;exact⟨_,a::ds,rfl,e⟩
def Pat.back {pat:Pat}{d:Aa}(e:pat.bind d L=some α')(fr:pat.free L=true)(m:M F α' B H):M F L B H:=by
 obtain⟨is,ds,rfl,e⟩:=Pat.is_ok e;refine m.forget (rf e).symm λj a h=>?_;by_cases b:j∈pat.slots
 .have:=z79.mp fr j b;unfold isFree at this;rw[h]at this;cases this
 .rw[sY e b];exact h
end
section
variable {X:Cx}{L:Ev}
def ck (X:Cx)(L:Ev)(ifs:List Ak)(Q:Bool->Prop):Prop:=∀(F:Fr) (B:St) (H:Hp) (R:Bool->Hp->Prop),M F L B H->(∀b H',Q b->zK F H'->Kz F H H'->R b H')->∃t,ve X ifs t/\t B H R
def zx6 (X:Cx)(ifs:List Ak):TT:=λB H R=>∃t,ve X ifs t/\t B H R
def iQ {ifs:List Ak}:ve X ifs (zx6 X ifs):=λpins s B H Q I a=>by obtain⟨t,p,q⟩:=a;exact p pins s B H Q I q
def dn {Q:Bool->Prop}(q:Q true):ck X L [] Q:=λF B H R m k=>⟨_,zj7,k _ H q m.tp Kz.refl⟩
def kE {c:Ak}{Q:Bool->Prop}(h:EvT X L c Q):ck X L [c] Q:=λF B H R m k=>⟨_,iB xv,h F B H R m k⟩
noncomputable def seen :Option A->Option A
 |some (.dat d)=>some (.dat d)
 |some .tape=>some .tape
 |_=>none
noncomputable def yP (imp:List (Option Nat))(L:Ev):Ev:=imp.map λo=>o.bind λj=>(L[j]?).bind seen
theorem nV {imp:List (Option Nat)}{i:Nat}{a:A}(h:(yP imp L)[i]?=some (some a)):∃j,imp[i]?=some (some j)/\L[j]?=some (some a)/\((∃d,a=.dat d)\/a=.tape):=by
 unfold yP at h;rw[z04,z22]at h;obtain⟨o,h1,h2⟩:=h;cases o with
 |none=>cases h2
 |some j=>
  have c:(L[j]?).bind seen=some a:=h2;cases q:L[j]? with
  |none=>rw[q]at c;cases c
  |some b=>
   rw[q]at c;cases b with
   |none=>cases c
   |some b=>
    cases b with
    |dat d=>cases c;exact⟨j,h1,q,.inl ⟨d,rfl⟩⟩
    |tape=>cases c;exact⟨j,h1,q,.inr rfl⟩
    |_=>cases c
def mO {imp:List (Option Nat)}{B:St}{i j:Nat}{v:V}(h1:imp[i]?=some (some j))(h2:B[j]?=some (some v)):(wG imp B)[i]?=some (some v):=by
 unfold wG;rw[z04,h1];show some ((B[j]?).bind id)=_;rw[h2];rfl
def xp (Y:Ae->Ad->Hp->List Ae->Cx)(pat:Pat)(ifs:List Ak)(elt:Ak)(b:Ev):List Aa->List Aa->(List Aa->Prop)->Prop
 |[],acc,Q=>Q acc
 |d::ds,acc,Q=>∃a,pat.bind d b=some a/\∀C s2 c fp,ck (Y C s2 c fp) a ifs λk=>if k=true then ∀C s2 c fp,EvD (Y C s2 c fp) a elt λy=>xp Y pat ifs elt b ds (acc++[y]) Q else xp Y pat ifs elt b ds acc Q
def eC (Y:Ae->Ad->Hp->List Ae->Cx)(e:Ak):TE:=λB H Q=>∀C s2 a fp,uj (Y C s2 a fp) e B H Q
def tsC (Y:Ae->Ad->Hp->List Ae->Cx)(ifs:List Ak):TT:=λB H Q=>∀C s2 a fp,zx6 (Y C s2 a fp) ifs B H Q
def jA {N:List Str}{imp:List (Option Nat)}{scope:Aq}{tg iter elt:Ak}{ifs:List Ak}{pat:Pat}{Q:List Aa->Prop}(E:pat.free (yP imp L)=true)
  (h:EvI X L tg iter λds=>ds.length<=1000/\xp (λC s2 p fp=>X.comp N scope C s2 p fp) pat ifs elt (yP imp L) ds [] Q)
  (F:Fr) (B:St) (H:Hp) (R:VK) (m:M F L B H) (k:∀ds v H',Q ds->zK F H'->Kz F H H'->yM F L B H v H' ds->R v H'):
  ∃Y:Ae->Ad->Hp->List Ae->Cx,Y=(λC s2 p fp=>X.comp N scope C s2 p fp)/\ze5 (zH1 X tg iter) imp (lh X.K pat) (tsC Y ifs) (eC Y elt) B H R:=by
 refine⟨_,rfl,h F B H _ m λds J H1 b1 t1 k1 a6 acc g=>?_⟩;obtain⟨hl,q1⟩:=b1;have m1:=m.kz k1 t1
 let A:Fr:=⟨H1,λx=>Ow F L B x\/x=acc,F.tp⟩
 let Nd:Ev->Prop:=λl=>∀(j:Nat) a,l[j]?=some (some a)->(∃d,a=.dat d)\/a=.tape
 have u:Nd (yP imp L):=λj a z=>by
  obtain⟨_,_,_,n⟩:=nV z;exact n
 have owc:∀{l:Ev} {V:St} {x:Ae},Nd l->(Ow A l V x↔A.O0 x):=λ{l V x} hh=>⟨λz=>z.elim id λb5=>by
  obtain⟨j,a,s,e1,Z,f⟩:=b5;rcases hh j a e1 with⟨d,rfl⟩|rfl
  .exact f.elim
  .exact f.elim,.inl⟩
 have gz:∀{l a4:Ev} {D τ2:St} {H:Hp},Nd l->Nd a4->zz (Gz A l D H) (Gz A a4 τ2 H):=λh1 h2=>zq λa o h e=>⟨λz=>h ((owc h1).mpr ((owc h2).mp z)),e⟩;have a9:∀{p:Hp},zK F p->zK A p:=λt=>t.to rfl λx z=>.inl (.inl z);have W:zz H1 (upd H1 acc (.lst [])):=zH g;have b0:M A (yP imp L) (wG imp B) (upd H1 acc (.lst [])):=by
  have g1:zz (Gz F L B H1) (Gz A (yP imp L) (wG imp B) (upd H1 acc (.lst []))):=λa o e=>by
   obtain⟨z1,z2⟩:=zc e;have na:=zj z2 g;exact zy (λz=>((owc u).mp z).elim z1 na) (by rw[zd na];exact z2)
  refine⟨by unfold yP wG;rw[zZ2,zZ2],λi a s e1 Z=>?_,λi j a b s t x e1 Z _ _ f=>?_,λi r q e=>(by rcases u i _ e with⟨d,w⟩|w<;>cases w),a9 (t1.same W),λx o e _=>W x o e,?_⟩
  .obtain⟨j,w1,w2,w3⟩:=nV e1;rcases w3 with⟨d,rfl⟩|rfl
   .obtain⟨v,g2,g3⟩:=m1.dat j d w2;rw[mO w1 g2]at Z;cases Z;exact⟨v,rfl,g3.same g1⟩
   .obtain⟨t,b,c,g2,g3⟩:=m1.tvar j w2;rw[mO w1 g3]at Z;cases Z;exact⟨t,b,c,g2,rfl⟩
  .rcases u i a e1 with⟨d,rfl⟩|rfl
   .exact f.elim
   .exact f.elim
  .rintro x (z|z)
   .have:∃o,H1 x=some o/\wJ o:=m1.owEx z;obtain⟨o,ho,hn⟩:=this;exact⟨o,W _ _ ho,hn⟩
   .exact⟨_,by rw[z];exact zg,yT⟩
 refine⟨λi n ys V p=>n=ds.length-i/\i<=ds.length/\∃ad:List Aa,M A (yP imp L) V p/\p acc=some (.lst ys)/\AVs (Gz A (yP imp L) V p) ys ad/\ad.length<=i/\xp (λC s2 p fp=>X.comp N scope C s2 p fp) pat ifs elt (yP imp L) (ds.drop i) ad Q,
  ⟨ds.length,by simp,z21 _,[],b0,zg,.nil,zZ8 _,q1⟩,?_⟩
 rintro i n ys V p ⟨rfl,hi,ad,m2,ha,av,had,cw⟩;have sG:zz (Gz F L B H1) (Gz A (yP imp L) V p):=λa o e=>by
  obtain⟨z1,z2⟩:=zc e;exact m2.old a o (zy (λz=>z.elim z1 (zj z2 g)) z2)
 obtain⟨w1,w2⟩:=a6 i p _ sG;by_cases I:i<ds.length
 .have hd:=zZ5 I;rw[(z99 I)]at cw;obtain⟨l,eb,body⟩:=cw;obtain⟨go,yl⟩:=w1 _ hd;have G:Nd l:=λj a z=>by
   obtain⟨is,b6,_,e⟩:=Pat.is_ok eb;by_cases hn:∀d,a≠.dat d
   .exact u j a (sH e z hn)
   .simp only[Classical.not_forall,Classical.not_not]at hn;exact .inl hn
  refine .inr ⟨go,λT U H'=>∃ad:List Aa,M A (yP imp L) U H'/\H' acc=some (.lst T)/\AVs (Gz A (yP imp L) U H') T ad/\ad.length<=i+1/\xp (λC s2 p fp=>X.comp N scope C s2 p fp) pat ifs elt (yP imp L) (ds.drop (i+1)) ad Q,
   λT U H' b3=>by obtain⟨a5,r1,r2,r3,r4,r5⟩:=b3;exact⟨ds.length-(i+1),(om0 I),rfl,I,a5,r1,r2,r3,r4,r5⟩,λx H3 y=>?_⟩
  obtain⟨O,a7⟩:=yl x H3 y;refine iW eb (m2.kz (Kz.of_same O) (m2.tp.same O)) (a7 λa o _ e=>m2.fresh e) λD m4 C s2 b2 fp=>body C s2 b2 fp A D H3 _ m4 λb H5 qb t5 k5=>?_;have m5:=m4.kz k5 t5;have a3:AVs (Gz A (yP imp L) D H5) ys ad:=av.same ((Kz.of_same O).gz m2.tp |>.trans ((gz (τ2:=D) u G).trans ((k5.gz m4.tp).trans (gz G u))));have accN:NT A acc:=⟨λt b c e=>by
   have:=(t1 t b c e).1.free g;exact⟨this.1,this.2.1⟩,nF t1.tab g⟩
  have a0:=k5 _ _ (O _ _ ha) accN;cases b with
  |false=>
   have a8:xp (λC s2 p fp=>X.comp N scope C s2 p fp) pat ifs elt (yP imp L) (ds.drop (i+1)) ad Q:=by simpa using qb
   exact tP ⟨ad,Pat.back eb E m5,a0,a3,(z05 had (z23 _ _)),a8⟩
  |true=>
   refine tO λC s2 P fp=>?_;have qe:EvD (X.comp N scope C s2 P fp) l elt λy=>xp (λC s2 p fp=>X.comp N scope C s2 p fp) pat ifs elt (yP imp L) (ds.drop (i+1)) (ad++[y]) Q:=by
    have z:=qb;rw[if_pos rfl]at z;exact z C s2 P fp
   refine qe A D H5 _ m5 λy v H6 qy t6 k6 r6=>?_;have a2:=k6 _ _ a0 accN;have hlen:ys.length<=i:=by rw[av.length];exact had
   have S:A.O0 acc:=.inr rfl;have a1:∀t b c,A.tp=some (t,b,c)->acc≠t/\acc≠b/\acc≠c:=λt b c e=>(t1 t b c e).1.free g;have m7:=(Pat.back eb E (m5.kz k6 t6)).wr (o:=.lst (ys++[v])) yT S a1 g (qD a2) (λi r q z=>by rcases u i _ z with⟨d,w⟩|w<;>cases w);refine⟨a2,yo (by lia),ad++[y],m7,zg,?_,by simp;exact had,qy⟩;have b4:zz (Gz A (yP imp L) D H6) (Gz A (yP imp L) D (upd H6 acc (.lst (ys++[v])))):=zq λa o h e=>⟨h,by rw[zd (λz=>h (.inl (by rw[z];exact S)))];exact e⟩;exact((a3.same ((gz (τ2:=D) u G).trans ((k6.gz m5.tp).trans (gz G u)))).append (.cons (r6.same (gz G u)) .nil)).same b4
 .have e:=(ya2 hi (z98 I));subst e;rw[ye0]at cw;exact .inl ⟨w2 (zZ8 _),k ad _ p cw (m.tp.re m2.tp rfl) (k1.trans m2.keep) (yM.back m k1 t1 ⟨acc,ys,rfl,g,ha,av.same (zq λa o h e=>⟨⟨λz=>h (.inl (.inl z)),λz=>h (.inl (.inr z))⟩,e⟩)⟩)⟩
def zA1 {N:List Str}{imp:List (Option Nat)}{scope:Aq}{tg iter elt:Ak}{ifs:List Ak}{pat:Pat}{Q:List Aa->Prop}{pos:Pos}(d:X.calm=true)(S:zP X.N X.env.scope N imp scope)(a:pat.free (yP imp L)=true)
  (hg:∀C s2 b fp,PG (X.comp N scope C s2 b fp) tg (lh X.K pat))
  (h:EvI X L tg iter λds=>ds.length<=1000/\xp (λC s2 b fp=>X.comp N scope C s2 b fp) pat ifs elt (yP imp L) ds [] Q) (c:∀x,foldedSetIterable iter X.env x=pure x:=by intro _;rfl):
  EvL X L (.ListComp elt [⟨tg,iter,ifs,0⟩] scope pos) Q:=λF B H R m k=>by
 obtain⟨Y,rfl,h⟩:=jA a h F B H R m k;exact⟨_,zt3 d S oz hg (λC s2 b fp pins s B H Q I h=>iQ pins s B H Q I (h C s2 b fp)) (λC s2 b fp pins s B H Q I h=>zf pins s B H Q I (h C s2 b fp)) c,h⟩
section
variable {E:xf}{rest body:List An}{e c tg iter:Ak}{pos p:Pos}
def mE.then {F:Fr}{D:Ends}(h:mE F E D):mE F {E with nx:=λa=>SvS X a rest E} {D with nx:=zi3 X rest D}:=
 ⟨λa b H' m q=>q F b H' D m h,h.rt,h.bk,h.ct⟩
def zM (q:E.nx L):SvS X L [] E:=λF B H D m h=>⟨_,oh,h.nx _ _ _ m q⟩
def SvS.imp {d:List An}{b:xf}(h:SvS X L d b)(hn:∀L,b.nx L->E.nx L)(hr:∀a,b.rt a->E.rt a)(hb:∀L,b.bk L->E.bk L)(f:∀L,b.ct L->E.ct L):SvS X L d E:=λF B H D m r=>
 h F B H D m ⟨λL B H m q=>r.nx L B H m (hn _ q),λa v H m q=>r.rt a v H m (hr _ q),λL B H m q=>r.bk L B H m (hb _ q),λL B H m q=>r.ct L B H m (f _ q)⟩
def yf (i:Nat){x:Str}{pos':Pos}(g:X.N.Nodup)(h:EvD X L e λd=>SvS X (L.set i (some (.dat d))) rest E)(hi:X.N[i]?=some x:=by rfl)(j:Loc X.env.scope x:=by first|exact Or.inl rfl|exact Or.inr rfl)
  (f:swapsWith e (some (.Name x pos')) pos.line X.env=pure false:=by rfl) (hf:X.fn x=true\/X.env.scope.names.lookup x=some .local:=by first|exact .inl rfl|exact .inr rfl|assumption):SvS X L (.Assign [.Name x pos'] e pos::rest) E:=λF B H D m r=>by exact⟨_,zJ (wk g hi j zf f hf) zY,h F B H _ m λd v H1 b t1 a k=>b F _ H1 D ((m.kz a t1).set k) r⟩
def xu (i:Nat){x:Str}{pos':Pos}(g:X.N.Nodup)(h:EvL X L e λds=>SvS X (L.set i (some (.own ds))) rest E)(hi:X.N[i]?=some x:=by rfl)(j:Loc X.env.scope x:=by first|exact Or.inl rfl|exact Or.inr rfl)
  (f:swapsWith e (some (.Name x pos')) pos.line X.env=pure false:=by rfl) (hf:X.fn x=true\/X.env.scope.names.lookup x=some .local:=by first|exact .inl rfl|exact .inr rfl|assumption):SvS X L (.Assign [.Name x pos'] e pos::rest) E:=λF B H D m r=>by exact⟨_,zJ (wk g hi j zf f hf) zY,h F B H _ m λd v H1 b t1 a k=>b F _ H1 D (m.setOwn t1 a k) r⟩
def cM (i:Nat){x:Str}{pos' a:Pos}{N:List Str}{imp:List (Option Nat)}{scope:Aq}{elt:Ak}{ifs:List Ak}{pat:Pat}(n:X.N.Nodup)(g:X.calm=true)(S:zP X.N X.env.scope N imp scope)(b:pat.free (yP imp L)=true)
  (hg:∀C s2 d fp,PG (X.comp N scope C s2 d fp) tg (lh X.K pat))
  (h:EvI X L tg iter λds=>ds.length<=1000/\xp (λC s2 d fp=>X.comp N scope C s2 d fp) pat ifs elt (yP imp L) ds [] λds=>SvS X (L.set i (some (.own ds))) rest E)
  (hi:X.N[i]?=some x:=by rfl) (o:Loc X.env.scope x:=by first|exact Or.inl rfl|exact Or.inr rfl) (f:swapsWith (.ListComp elt [⟨tg,iter,ifs,0⟩] scope a) (some (.Name x pos')) pos.line X.env=pure true:=by rfl)
  (hf:X.fn x=true\/X.env.scope.names.lookup x=some .local:=by first|exact .inl rfl|exact .inr rfl|assumption) (l:∀x,foldedSetIterable iter X.env x=pure x:=by intro _;rfl):
  SvS X L (.Assign [.Name x pos'] (.ListComp elt [⟨tg,iter,ifs,0⟩] scope a) pos::rest) E:=λF B H D m r=>by
 obtain⟨Y,rfl,h⟩:=jA b h F B H (λv H'=>zi3 X rest D (B.set i (some v)) H') m λds v H' q t k j=>q F _ H' D (m.setOwn t k j) r;exact⟨_,zJ (zc0 g S oz hg (λC s2 d fp pins s B H Q I h=>iQ pins s B H Q I (h C s2 d fp)) (λC s2 d fp pins s B H Q I h=>zf pins s B H Q I (h C s2 d fp)) n hi o f hf l) zY,h⟩
theorem uY.dat {F:Fr}{B:St}{H:Hp}{v:V}{d:Aa}(m:M F L B H)(r:AV (Gz F L B H) v d):uY F v H (.dat d):=
 ⟨m.tp,m.keep,r.same (zq λa o h e=>⟨ow0 h,e⟩)⟩
def yH (h:EvD X L e λd=>E.rt (.dat d)):SvS X L (.Return (some e) pos::rest) E:=λF B H D m r=>by exact⟨_,zJ (vI zf) zY,h F B H _ m λd v H1 b t1 a f=>r.rt _ _ _ (uY.dat (m.kz a t1) f) b⟩
def tU (h:EvL X L e λds=>E.rt (.own ds)):SvS X L (.Return (some e) pos::rest) E:=λF B H D m r=>by
 refine⟨_,zJ (vI zf) zY,h F B H _ m λd v H1 f t1 b g=>r.rt _ _ _ ?_ f⟩;obtain⟨l,xs,h1,h2,h3,i⟩:=g;exact⟨t1,m.keep.trans b,l,xs,_,h1,rfl,m.fresh0 h2,ow0 (m.fresh h2),h3,i.same (zq λa o h e=>⟨⟨ow0 h.1,h.2⟩,e⟩)⟩
def xr (i:Nat){x:Str}{ds:List Aa}(hi:L[i]?=some (some (.own ds)))(q:E.rt (.own ds))(d:X.N[i]?=some x:=by rfl)(g:Vis X.env.scope x:=by first|exact Or.inl rfl|exact Or.inr (Or.inl rfl)|exact Or.inr (Or.inr rfl))
  (hd:(x == ("__debug__":Str))=false:=by decide) (b:(x == ("__classdict__":Str))=false:=by decide):SvS X L (.Return (some (.Name x p)) pos::rest) E:=λF B H D m r=>by
 obtain⟨l,xs,h1,h2,h3,j,f⟩:=m.own i ds hi;refine⟨_,zJ (vI (xj d g hd b)) zY,.ref l,h1,r.rt (.own ds) _ _ ⟨m.tp,m.keep,l,xs,_,rfl,rfl,f,j,h2,h3.same (zq λa o h e=>⟨⟨ow0 h,λz=>h (by rw[z];exact .inr ⟨i,_,_,hi,h1,rfl⟩)⟩,e⟩)⟩ q⟩
def zi5 (i:Nat){x:Str}{pos':Pos}(g:X.N.Nodup)(h:EvC X L e λc=>SvS X (L.set i (some (.ow c))) rest E)(hi:X.N[i]?=some x:=by rfl)(j:Loc X.env.scope x:=by first|exact Or.inl rfl|exact Or.inr rfl)
  (f:swapsWith e (some (.Name x pos')) pos.line X.env=pure false:=by rfl) (hf:X.fn x=true\/X.env.scope.names.lookup x=some .local:=by first|exact .inl rfl|exact .inr rfl|assumption):SvS X L (.Assign [.Name x pos'] e pos::rest) E:=λF B H D m r=>by exact⟨_,zJ (wk g hi j zf f hf) zY,h F B H _ m λd v H1 b t1 a k=>b F _ H1 D (m.setC t1 a k) r⟩
theorem ue {a b:List An}(h:EvT X L c λk=>SvS X L (if k=true then a else b) {E with nx:=λd=>SvS X d rest E}):SvS X L (.If c a b pos::rest) E:=λF B H D m r=>by
 refine⟨_,zJ (ze1 xv zY zY) zY,h F B H _ m λk H1 g t1 f=>?_⟩;cases k with
 |true=>exact tO (by simpa using g F B H1 _ (m.kz f t1) r.then)
 |false=>exact tP (by simpa using g F B H1 _ (m.kz f t1) r.then)
def qf (i:Nat){ds:List Aa}{a:List An}(hi:L[i]?=some (some (.own ds)))(h:SvS X (L.set i (some (.dat (.list ds)))) a E):SvS X L a E:=λF B H D m r=>h F B H D (m.frz hi) r
def M.wrC {F:Fr}{B:St}{H:Hp}{i:Nat}{c c':Aa}{l:Ae}{o':HO}(m:M F L B H)(hi:L[i]?=some (some (.ow c)))(v:B[i]?=some (some (.ref l)))(av:yI (Gz F L B H) o' c'):
  M F (L.set i (some (.ow c'))) B (upd H l o'):=by
 obtain⟨W,o,h1,h2,h3,J,P⟩:=m.owc i c hi;rw[v]at h1;cases h1;have C:∀{j:Nat} {a:A} {s:Option V},(L.set i (some (.ow c')))[j]?=some (some a)->B[j]?=some s->(i=j/\a=.ow c'/\s=some (.ref l))\/(i≠j/\L[j]?=some (some a)):=λ{j a s} e1 g=>by
  rcases zL e1 with⟨rfl,z⟩|⟨D,d⟩
  .cases z;rw[v]at g;cases g;exact .inl ⟨rfl,rfl,rfl⟩
  .exact .inr ⟨D,d⟩
 have N:∀{y:Ae},Ow F (L.set i (some (.ow c'))) B y->Ow F L B y:=λ{y} h=>by
  rcases h with z|⟨j,a,s,e1,g,f⟩
  .exact .inl z
  .rcases C e1 g with⟨rfl,rfl,rfl⟩|⟨D,d⟩
   .exact .inr ⟨i,_,_,hi,v,f⟩
   .exact .inr ⟨j,a,s,d,g,f⟩
 have ol:Ow F L B l:=.inr ⟨i,_,_,hi,v,rfl⟩;have Q:zz (Gz F L B H) (Gz F (L.set i (some (.ow c'))) B (upd H l o')):=zq λa o h e=>⟨λz=>h (N z),by rw[zd (λz=>h (by rw[z];exact ol))];exact e⟩;refine⟨by rw[z62];exact m.len,λj a s e1 g=>?_,λj I a b s t x e1 g K G f1 f2=>?_,λj r q e I a s x e1 g f=>?_,m.tp.updO J (h3.plain h2),λy o e n=>?_,λy hy=>?_⟩
 .rcases C e1 g with⟨rfl,rfl,rfl⟩|⟨D,d⟩
  .exact⟨l,o',rfl,zg,av.same Q,J,P⟩
  .refine(m.ok j a s d g).stay Q (λy u f e=>?_) rfl λr q T k=>⟨k.tp,k.o,k.ok.updO (λz=>J (k.o _ z)) (h3.plain h2),λy u e n=>?_⟩
   .obtain⟨S,U,_⟩:=m.ft d g f;refine⟨?_,S,U⟩;rw[zd λz=>D (m.dj i j _ a _ s l hi d v g rfl (by rw[<-z];exact f))];exact e
   .rw[zd (zj e (m.xd j r q (by rw[<-T];exact d) i _ _ l hi v rfl))];exact k.k y u e n
 .rcases C e1 K with⟨rfl,rfl,rfl⟩|⟨D,d⟩
  .rcases C g G with⟨rfl,_⟩|⟨O,w⟩
   .rfl
   .exact m.dj i I _ b _ t x hi w v G f1 f2
  .rcases C g G with⟨rfl,rfl,rfl⟩|⟨O,w⟩
   .exact m.dj j i a _ s _ x d hi K v f1 f2
   .exact m.dj j I a b s t x d w K G f1 f2
 .rcases zL e with⟨_,z⟩|⟨_,R⟩
  .cases z
  .rcases C e1 g with⟨rfl,rfl,rfl⟩|⟨_,d⟩
   .exact m.xd j r q R i _ _ x hi v f
   .exact m.xd j r q R I a s x d g f
 .rw[zd (zj e P)];exact m.keep y o e n
 .rw[zd (λz=>J (by rw[<-z];exact hy))];exact m.oex y hy
def M.wrOwn {F:Fr}{B:St}{H:Hp}{i:Nat}{ds a:List Aa}{l:Ae}{ys:List V}(m:M F L B H)(hi:L[i]?=some (some (.own ds)))(b:B[i]?=some (some (.ref l)))(av:AVs (Gz F L B H) ys a):
  M F (L.set i (some (.own a))) B (upd H l (.lst ys)):=m.wrC hi b (.lst av)
def uV (i:Nat){x:Str}{ds:List Aa}{p1 p2 p3:Pos}(hi:L[i]?=some (some (.own ds)))(h:EvD X L e λd=>ds.length<1000/\SvS X (L.set i (some (.own (ds++[d])))) rest E)
  (o:X.N[i]?=some x:=by rfl) (q:Vis X.env.scope x:=by first|exact Or.inl rfl|exact Or.inr (Or.inl rfl)|exact Or.inr (Or.inr rfl)) (hd:(x == ("__debug__":Str))=false:=by decide) (j:(x == ("__classdict__":Str))=false:=by decide)
  (a:attributeBase (.Name x p1) "append" X.env (eval (.Name x p1) X.env)=eval (.Name x p1) X.env:=by rfl) (n:Af [e] X.env=(false,eval e X.env)::Af [] X.env:=by rfl)
  (hpl:((((backTo p3 (Af [e] X.env)).all λx=>!x.fst)&&(backToKw p3 (keywordEach [] X.env)).all λx=>x.fst.isSome)&&decide (([e].length+([]:List Keyword).length+if([]:List Keyword).isEmpty=true then 0 else 1)<30))=true:=by rfl)
  (b:(p2.endLine == p3.line)=true:=by rfl) (f:swapsWith (.Call (.Attribute (.Name x p1) "append" p2) [e] [] p3) none pos.line X.env=pure false:=by rfl):SvS X L (.Expr (.Call (.Attribute (.Name x p1) "append" p2) [e] [] p3) pos::rest) E:=λF B H D m r=>by
 obtain⟨l,xs,h1,h2,h3,t,u⟩:=m.own i ds hi;refine⟨_,zJ (ik (zw9 PySem.F.plainAttrs_list PySem.F.slot_list_append PySem.F.type_list_append qE (xj o q hd j) (zr zf zD n) a hpl b n) f) zY,⟨.ref l,h1,.inl ⟨rfl,_,SqL.of h2⟩,?_⟩⟩;refine h F B H _ m λd v H1 k t1 g s=>?_;refine⟨l,xs,v,rfl,rfl,g _ _ h2 (m.tp.nt t),by rw[h3.length];exact yo (z58 k.1),?_⟩;exact k.2 F B _ D ((m.kz g t1).wrOwn hi h1 ((h3.same (g.gz m.tp)).append (.cons s .nil))) r
def pQ (i:Nat){x:Str}{a:Ak}{ds:List Aa}{p1 p2:Pos}(hi:L[i]?=some (some (.own ds)))(h:EvD X L e λd=>EvD X L a λy=>∃k j,y=.int k/\ixN ds.length k=some j/\SvS X (L.set i (some (.own (ds.set j d)))) rest E)
  (I:X.N[i]?=some x:=by rfl) (J:Vis X.env.scope x:=by first|exact Or.inl rfl|exact Or.inr (Or.inl rfl)|exact Or.inr (Or.inr rfl)) (hd:(x == ("__debug__":Str))=false:=by decide) (t:(x == ("__classdict__":Str))=false:=by decide)
  (z:swapsWithSole [.Subscript (.Name x p1) a p2] e pos.line X.env=pure false:=by rfl) (hw:swappedStores [.Subscript (.Name x p1) a p2] e X.env=pure none:=by rfl)
  (ha:(assignEach [.Subscript (.Name x p1) a p2] X.env).map (·.2)=[assign (.Subscript (.Name x p1) a p2) X.env]:=by rfl) (g:PG X (.Subscript (.Name x p1) a p2) (zL6 (zg3 i) (uj X a) zz3):=by exact kW (xj rfl (by first|exact Or.inl rfl|exact Or.inr (Or.inl rfl)|exact Or.inr (Or.inr rfl))) zf set_list):
  SvS X L (.Assign [.Subscript (.Name x p1) a p2] e pos::rest) E:=λF B H D m r=>by
 obtain⟨l,xs,h1,h2,h3,n,G⟩:=m.own i ds hi;refine⟨_,zJ (lM zf g z hw ha) zY,h F B H _ m λd v H1 o t1 f u=>?_⟩;have m1:=m.kz f t1;refine⟨.ref l,h1,o F B H1 _ m1 λy K M s w b A=>?_⟩;obtain⟨k,j,rfl,C,q⟩:=s;cases A.int_inv;refine⟨l,xs,k,j,rfl,rfl,b _ _ (f _ _ h2 (m.tp.nt n)) (m.tp.nt n),by rw[h3.length];exact C,?_⟩;exact q F B _ D ((m1.kz b w).wrOwn hi h1 (((h3.same (f.gz m.tp)).same (b.gz m1.tp)).set (u.same (b.gz m1.tp)) j)) r
def tf (X:Cx)(pat:Pat)(body rest:List An)(E:xf):List Aa->Ev->Prop
 |[],L=>SvS X L rest E
 |d::ds,L=>∃a,pat.bind d L=some a/\SvS X a body {nx:=tf X pat body rest E ds,ct:=tf X pat body rest E ds,bk:=λb=>SvS X b rest E,rt:=E.rt}
def oQ {pat:Pat}(U:PassesOwn (Al X.prog X.w) X.A X.env X.xe)(R:X.calm=true)(hg:PG X tg (lh X.K pat))(h:EvI X L tg iter λds=>tf X pat body rest E ds L)
  (T:∀x,foldedSetIterable iter X.env x=pure x:=by intro _;rfl):SvS X L (.For tg iter body [] pos::rest) E:=λF B H D m r=>by
 refine⟨_,zJ (zH5 U R oz hg zY T) zY,h F B H _ m λds J H1 O t1 N v=>?_⟩;have m1:=m.kz N t1;have C:mE (F.up (Gz F L B H1)) E D:=r.up;refine⟨λi n j H'=>n=ds.length-i/\i<=ds.length/\∃b,M (F.up (Gz F L B H1)) b j H'/\tf X pat body rest E (ds.drop i) b,⟨ds.length,by simp,z21 _,L,m1.up,O⟩,?_⟩;rintro i n j H' ⟨rfl,hi,b,t,lw⟩;obtain⟨Y,Z⟩:=v i H' _ (m1.upold t);by_cases d:i<ds.length
 .have hd:=zZ5 d;rw[z99 d]at lw;obtain⟨V,P,body⟩:=lw;obtain⟨go,Q⟩:=Y _ hd;refine .inr ⟨go,λg l=>∃b,M (F.up (Gz F L B H1)) b g l/\tf X pat _ rest E (ds.drop (i+1)) b,λg l ⟨k,S,W⟩=>⟨ds.length-(i+1),(om0 d),rfl,d,k,S,W⟩,λx I y=>?_⟩;obtain⟨s,z⟩:=Q x I y;exact iW P (t.kz (Kz.of_same s) (t.tp.same s)) (z λa o _ e=>t.fresh e) λu m4=>body _ u I _ m4 ⟨λf σ2 G m2 q=>⟨f,m2,q⟩,C.rt,λf σ2 G m2 q=>q _ σ2 G D m2 C,λf σ2 G m2 q=>⟨f,m2,q⟩⟩
 .have e:=(ya2 hi (z98 d));subst e;rw[ye0]at lw;exact .inl ⟨Z (zZ8 _),lw _ j H' D t C⟩
def zB {pat:Pat}{ds:List Aa}(P:Nat->Ev->Prop)(h0:P 0 L)(j:∀i d L,ds[i]?=some d->P i L->∃a,pat.bind d L=some a/\SvS X a body {nx:=P (i+1),ct:=P (i+1),bk:=λg=>SvS X g rest E,rt:=E.rt})
  (hd:∀L,P ds.length L->SvS X L rest E):tf X pat body rest E ds L:=by
 have key:∀n i L,n=ds.length-i->i<=ds.length->P i L->tf X pat body rest E (ds.drop i) L:=by
  intro n
  induction n with
  |zero=>
   intro i L hn hi p;have e:=(om5 hn hi);subst e;rw[ye0];exact hd L p
  |succ n h=>
   intro i L hn hi p;have f:=(om6 hn);rw[z99 f];obtain⟨a,e,b⟩:=j i ds[i] L (zZ5 f) p;exact⟨a,e,b.imp (λL p=>h (i+1) L (om7 hn) f p) (λ_ z=>z) (λ_ z=>z) (λL p=>h (i+1) L (om7 hn) f p)⟩
 exact key _ 0 L rfl (z21 _) h0
end
end
section
variable {P:Ag}{w:Ai}{K:Ac}{mg:Str->Option Ab}{base:Ao}
theorem M.start {F:Fr}{N:List Str}{vs:List V}{as:List A}{H:Hp}(e:F.H0=H)(t:zK F H)(o:∀x,F.O0 x->∃u,H x=some u/\wJ u)(l:yp F (sub (λx=>¬F.O0 x) H) vs as):
  M F (as.map some++List.replicate (N.length-as.length) none) (L2.start N vs) H:=by
 have g:∀{i:Nat} {a:A},(as.map some++List.replicate (N.length-as.length) none)[i]?=some (some a)->as[i]?=some a:=λ{i a} h=>by
  rcases yc2 i as.length with z|z
  .rw[z83 (by rw[zZ2];exact z),z04,z22]at h;obtain⟨b,h1,h2⟩:=h;cases h2;exact h1
  .rw[yb6 (by rw[zZ2];exact z),ya6]at h;split at h<;>cases h
 have at':∀{vs:List V} {as:List A} {i:Nat} {a:A},yp F (sub (λx=>¬F.O0 x) H) vs as->as[i]?=some a->∃v,vs[i]?=some v/\eN F (sub (λx=>¬F.O0 x) H) v a:=by
  intro vs as i a h
  induction h generalizing i with
  |nil=>intro e;simp at e
  |cons h r y=>
   intro e;cases i with
   |zero=>simp at e;subst e;exact⟨_,rfl,h⟩
   |succ i=>obtain⟨v,h1,h2⟩:=y (by simpa using e);exact⟨v,by simpa using h1,h2⟩
 have p:∀{i:Nat} {v:V},vs[i]?=some v->(L2.start N vs)[i]?=some (some v):=λ{i v} h=>by
  unfold L2.start;rw[z83 (by rw[zZ2];exact((zZ6.mp h).1)),z04,h];rfl
 have no:∀(i:Nat) a,(as.map some++List.replicate (N.length-as.length) none)[i]?=some (some a)->(∃d,a=.dat d)\/a=.tape:=λi a z=>by
  obtain⟨v,_,h⟩:=at' l (g z);cases a with
  |dat d=>exact .inl ⟨d,rfl⟩
  |tape=>exact .inr rfl
  |_=>exact h.elim
 have n:zz (sub (λx=>¬F.O0 x) H) (Gz F (as.map some++List.replicate (N.length-as.length) none) (L2.start N vs) H):=zq λa o h e=>⟨λz=>z.elim h λk=>by
  obtain⟨i,b,s,e1,_,f⟩:=k;rcases no i b e1 with⟨d,rfl⟩|rfl
  .exact f.elim
  .exact f.elim,e⟩
 refine⟨by unfold L2.start;simp[l.length],λi a s e1 m=>?_,λi j a b s t x e1 _ _ _ f=>?_,λi r q z=>(by rcases no i _ z with⟨d,w⟩|w<;>cases w),t,λx o' h _=>by rw[<-e];exact h,o⟩
 .obtain⟨v,h1,h2⟩:=at' l (g e1);rw[p h1]at m;cases m;rcases no i a e1 with⟨d,rfl⟩|rfl
  .exact⟨v,rfl,AV.same n h2⟩
  .obtain⟨t',b,c,h3,rfl⟩:=h2;exact⟨t',b,c,h3,rfl⟩
 .rcases no i a e1 with⟨d,rfl⟩|rfl
  .exact f.elim
  .exact f.elim
def fnA {x qual:Str}{st:An}{f:Ae}{fd:Ap}{N ps:List Str}{k:Nat}{φ:List A->(A->Prop)->Prop}(G:Fun K x qual st f fd)(S:ya N ps (zh st))(hlen:∀as Q,φ as Q->as.length=ps.length)
  (b:∀(cdv:Ab) (d:Am) (outer:List Ar) (s:Ad) (H:Hp) (E:XK) (as:List A) (Q:A->Prop),zR k (d.deeper (envOfC qual (zh st) s.heap.objs.size f cdv))->φ as Q->
   SvS (vv CX0 P w K mg base N qual (zh st) f cdv d outer s H E).nox (as.map some++List.replicate (N.length-as.length) none) (zt st) {nx:=λ_=>Q (.dat .none),rt:=Q}):yE P w K mg base CX0 (k+1) f fd ps (spA φ):=by
 refine G.ok S (λvs H Q E h=>?_) (λcdv d outer s H vs l E hr h=>?_)
 .obtain⟨F,as,j,_,_,_,g,c,_⟩:=h;rw[g.length,hlen as _ c]
 .obtain⟨F,as,j,e,t,o,g,c,i⟩:=h;exact b cdv d outer s H E as j hr c F _ H _ (M.start e t o g) ⟨λL B H' m q=>i _ _ _ q ⟨m.tp,m.keep,.non⟩,λa v H' r q=>i a v H' q r,λ_ _ _ _ z=>z.elim,λ_ _ _ _ z=>z.elim⟩
end
section
variable {X:Cx}{pins:List (Ae×Obj)}{B:St}{H:Hp}{s:Ad}{h':Ao}
def Inv.turnL {t':Nat}{ch:List Ae}(I:Inv X pins B H s)(k:∀b o,b∉ch->s.heap.get? b=some o->h'.get? b=some o)(hf:∀b∈ch,xg X pins H b):Inv X pins B H {s with heap:=h',toks:=t'}:=by
 have d:∀b u,H b=some u->b∉ch:=λb u e z=>by rw[(hf b z).1]at e;cases e
 refine I.step (λb hb=>?_) (λb o _ _ a e _=>k b o a e) (λb o _ _ a e _=>⟨o.slots,k b o a e⟩) (λ_ _ _ _ n=>n)
  (λb o a e=>⟨o,k b o a e⟩) (λ_ _ e=>e) (λ_ _ _ e=>e) (λb ps e=>⟨#[],by rw[e];simp⟩) (λm hm=>?_) (λb u e=>?_) I.bare
 .obtain⟨_,f1,_,h,f4,i⟩:=hf b hb;exact⟨h,f1,f4,i⟩
 .obtain⟨o,g,f,j,r⟩:=hm;exact⟨o,g,f,k _ o (λz=>(hf _ z).2.1 rfl) j,r⟩
 .refine(I.hok b u e).stay (λc v a q=>k c v ?_ q) (λ_ q=>q) λ_ _ q=>q;rcases a with z|z
  .rw[z];exact d b u e
  .exact d c _ z
def Inv.turnLay {t':Nat}{ch:List Ae}{T:Ae}{o:HO}(I:Inv X pins B H s)(k:∀b o,b∉ch->s.heap.get? b=some o->h'.get? b=some o)(hf:∀b∈ch,xg X pins H b)(f:s.heap.objs.size<=T)(new:yi X.prog X.w (upd H T o) h' T o):
  Inv X pins B (upd H T o) {s with heap:=h',toks:=t'}:=by
 have d:∀b u,H b=some u->b∉ch:=λb u e z=>by rw[(hf b z).1]at e;cases e
 have hn:=I.hok.fresh f;have lt:∀{b:Ae} {u:Obj},s.heap.get? b=some u->b≠T:=λe=>z30 (zZ7 (z07 e) f);refine I.step (λb hb=>?_) (λb o _ _ a e _=>k b o a e) (λb o _ _ a e _=>⟨o.slots,k b o a e⟩) (λb u _ e n=>by rw[zd (lt e)];exact n)
  (λb o a e=>⟨o,k b o a e⟩) (λb xs e=>by rw[zd (zj e hn)];exact e) (λb u xs e=>by rw[zd (zj e hn)];exact e) (λb ps e=>⟨#[],by rw[zd (zj e hn),e];simp⟩) (λm hm=>?_) (λb u e=>?_) I.bare
 .obtain⟨_,f1,_,i,f4,j⟩:=hf b hb;exact⟨i,f1,f4,j⟩
 .obtain⟨o,h,g,l,r⟩:=hm;exact⟨o,h,g,k _ o (λz=>(hf _ z).2.1 rfl) l,r⟩
 .by_cases hb:b=T
  .subst hb;rw[zg]at e;cases e;exact new
  .rw[zd hb]at e;refine(I.hok b u e).stay (λc v a q=>k c v ?_ q) (λc q=>by rw[zd (zj q hn)];exact q) λc xs q=>by rw[zd (zj q hn)];exact q
   rcases a with z|z
   .rw[z];exact d b u e
   .exact d c _ z
end
def vV {a b:Nat}(h:a<b):(a:Ae)≠b:=z30 h
def ah {a b:Nat}(h:b<a):(a:Ae)≠b:=yb1 h
def gB (n l1 l2:Nat)(h1:l1<n)(h2:l2<n):ZipApart (n+4) (n+2) (n+3) n (n+1) l1 l2 where
 TIz:=vV (by lia)
 TOz:=vV (by lia)
 i1z:=vV (by lia)
 i2z:=vV (by lia)
 TITO:=vV (by lia)
 TIi1:=ah (by lia)
 TIi2:=ah (by lia)
 TOi1:=ah (by lia)
 TOi2:=ah (by lia)
 i12:=vV (z64 _)
 l1z:=vV (zZ7 h1 (z23 _ _))
 l1TO:=vV (zZ7 h1 (z23 _ _))
 l1i1:=vV (h1)
 l1i2:=vV (zZ7 h1 (z23 _ _))
 l2z:=vV (zZ7 h2 (z23 _ _))
 l2TO:=vV (zZ7 h2 (z23 _ _))
 l2i1:=vV (h2)
 l2i2:=vV (zZ7 h2 (z23 _ _))
def Itz (K:Ac)(l1 l2:Ae):It:=
 ⟨λi H=>∃xs ys x y,SqL K H l1 xs/\SqL K H l2 ys/\xs[i]?=some x/\ys[i]?=some y,
  λi H v H'=>∃T x y,v=.ref T/\H T=none/\H'=upd H T (.tup [x,y])/\(∀xs,SqL K H l1 xs->xs[i]?=some x)/\∀ys,SqL K H l2 ys->ys[i]?=some y,
  λi H=>∃xs ys,SqL K H l1 xs/\SqL K H l2 ys/\(xs.length<=i\/ys.length<=i)⟩
def Ite (K:Ac)(l:Ae):It:=
 ⟨λi H=>∃xs x,SqL K H l xs/\xs[i]?=some x,
  λi H v H'=>∃T x,v=.ref T/\H T=none/\H'=upd H T (.tup [.int i,x])/\∀xs,SqL K H l xs->xs[i]?=some x,
  λi H=>∃xs,SqL K H l xs/\xs.length<=i⟩
def za9 {P:Ag}{w:Ai}{K:Ac}{elts:List Ak}{U:Nat}{pos:Pos}{z TI TO i1 i2 l1 l2:Ae}(D:ZipApart z TI TO i1 i2 l1 l2):
  Turn P w K (.Tuple elts U pos) (Itz K l1 l2) [z,TI,TO,i1,i2] z (λi h=>IsZip h z TI TO .none/\IsPair h TI (.ref i1) (.ref i2)/\(∃a b,IsPair h TO a b)/\h.IsListIter i1 l1 i/\h.IsListIter i2 l2 i) where
 mem:=by simp
 obj:=λi h st b hb=>by
  obtain⟨h1,h2,⟨a,c,h3⟩,⟨O,e1,_,d1⟩,⟨S,r,_,V⟩⟩:=st;simp only[zZ9,z31,z57]at hb;rcases hb with rfl|rfl|rfl|rfl|rfl
  .exact⟨_,h1,λv z=>by cases(z)⟩
  .exact⟨_,h2,λv z=>by cases(z)⟩
  .exact⟨_,h3,λv z=>by cases(z)⟩
  .exact⟨O,e1,λv z=>by rw[d1]at z;cases z⟩
  .exact⟨S,r,λv z=>by rw[V]at z;cases z⟩
 keep:=λi h h' st k=>by
  obtain⟨h1,h2,⟨a,c,h3⟩,m,l⟩:=st;exact⟨k z (by simp) _ h1,k TI (by simp) _ h2,⟨a,c,k TO (by simp) _ h3⟩,m.at λo e=>k i1 (by simp) o e,l.at λo e=>k i2 (by simp) o e⟩
 item:=by
  intro X N hw t T i pins s B H E I hf st hg;subst N hw t;obtain⟨xs,ys,x,y,d,f,R,hy⟩:=hg;obtain⟨p,j,p1,M⟩:=I.list d;obtain⟨q,g,p2,G⟩:=I.list f;obtain⟨u,hu,ru⟩:=j.get R;obtain⟨v,hv,rv⟩:=g.get hy;obtain⟨h1,h2,⟨a,c,h3⟩,m,l⟩:=st;refine wpAny_pyNext_zip_item D h1 h2 h3 m l p1.isList p2.isList (by simpa using hu) (by simpa using hv) λh' a1 a2 a3 a4 Z a6 hk=>⟨_,rfl,wpAny_letOwnedTupleGo_zip a1 λL b1 n=>?_⟩;have C:∀b o,b∉[z,TI,TO,i1,i2]->s.heap.get? b=some o->L.get? b=some o:=λb o hb e=>by
   simp only[zZ9,z31,z57,not_or]at hb;exact n.extBut _ _ hb.1 (hk b o hb.1 hb.2.2.1 hb.2.2.2.1 hb.2.2.2.2 e)
  have gT:=n.extBut _ _ (yb1 (z07 h1)) Z;have J:=I.turnLay (t':=s.toks) (o:=.tup [x,y]) C hf (zZ8 _) ⟨by show 2<=sizeLine;decide,[u,v],.cons ru (.cons rv .nil),_,gT,rfl,0,rfl⟩;refine⟨.ref s.heap.objs.size,_,J,rfl,⟨_,x,y,rfl,I.hok.fresh (zZ8 _),rfl,λzs F=>by rw[I.list_inj F d];exact R,λzs F=>by rw[I.list_inj F f];exact hy⟩,⟨b1,n.extBut _ _ D.TIz (hk _ _ D.TIz D.TITO D.TIi1 D.TIi2 h2),⟨u,v,n.extBut _ _ D.TOz a2⟩,a3.extBut n.extBut D.i1z,a4.extBut n.extBut D.i2z⟩,λb hb=>?_⟩;rw[zd]
  .exact(hf b hb).1
  .obtain⟨o,e,_⟩:=(show ∃o,s.heap.get? b=some o/\True from by
    simp only[zZ9,z31,z57]at hb;obtain⟨O,e1,_⟩:=m;obtain⟨S,r,_⟩:=l;rcases hb with rfl|rfl|rfl|rfl|rfl
    .exact⟨_,h1,trivial⟩
    .exact⟨_,h2,trivial⟩
    .exact⟨_,h3,trivial⟩
    .exact⟨_,e1,trivial⟩
    .exact⟨_,r,trivial⟩)
   exact z30 (z07 e)
 done:=by
  intro X N hw t T i pins s B H E I hf st hg;subst N hw t;obtain⟨xs,ys,d,f,Y⟩:=hg;obtain⟨p,j,p1,M⟩:=I.list d;obtain⟨q,g,p2,G⟩:=I.list f;obtain⟨h1,h2,⟨a,c,h3⟩,m,l⟩:=st;refine wpAny_pyNext_zip_end (I.ok.hd T) D h1 h2 h3 m l p1.isList p2.isList (Y.imp (λz=>by simp;exact z05 (z26 j.length.symm) z) λz=>by simp;exact z05 (z26 g.length.symm) z) λh' hk=>⟨rfl,?_⟩;exact I.turnL (λb o hb e=>by
   simp only[zZ9,z31,z57,not_or]at hb;exact hk b o hb.1 hb.2.2.1 hb.2.2.2.1 hb.2.2.2.2 e) hf
 self:=λA i s Q E st h=>wpAny_pyIter_zip st.1 h
def gn {P:Ag}{w:Ai}{K:Ac}{elts:List Ak}{D:Nat}{pos:Pos}{e it l:Ae}(hne:e≠it):
  Turn P w K (.Tuple elts D pos) (Ite K l) [e,it] e (λi h=>(∃old,IsEnum h e it i old)/\h.IsListIter it l i) where
 mem:=by simp
 obj:=λi h st b hb=>by
  obtain⟨⟨old,h1⟩,⟨y,e1,_,O⟩⟩:=st;simp only[zZ9,z31,z57]at hb;rcases hb with rfl|rfl
  .exact⟨_,h1,λv z=>by cases(z)⟩
  .exact⟨y,e1,λv z=>by rw[O]at z;cases z⟩
 keep:=λi h h' st k=>by
  obtain⟨⟨old,h1⟩,d⟩:=st;exact⟨⟨old,k e (by simp) _ h1⟩,d.at λo q=>k it (by simp) o q⟩
 item:=by
  intro X r hw m t i pins s B H E I hf st hg;subst r hw m;obtain⟨xs,x,a,C⟩:=hg;obtain⟨f,c,p1,n⟩:=I.list a;obtain⟨u,M,N⟩:=c.get C;obtain⟨⟨old,h1⟩,d⟩:=st;refine wpAny_pyNext_enum_item h1 d p1.isList (by simpa using M) hne λh' a1 L G U hk=>⟨_,rfl,wpAny_letOwnedTupleGo_enum a1 λj R g=>?_⟩;have p:∀b o,b∉[e,it]->s.heap.get? b=some o->j.get? b=some o:=λb o hb q=>by
   simp only[zZ9,z31,z57,not_or]at hb;exact g.extBut _ _ hb.1 (hk b o hb.1 hb.2 q)
  have S:=g.extBut _ _ (yb1 (z07 h1)) G;have J:=I.turnLay (t':=s.toks+1) (o:=.tup [.int i,x]) p hf (zZ8 _) ⟨by show 2<=sizeLine;decide,[.int i s.toks,u],.cons ⟨_,rfl⟩ (.cons N .nil),_,S,rfl,0,rfl⟩;refine⟨.ref s.heap.objs.size,_,J,rfl,⟨_,x,rfl,I.hok.fresh (zZ8 _),rfl,λzs T=>by rw[I.list_inj T a];exact C⟩,⟨⟨u,by simpa using R⟩,L.extBut g.extBut hne.symm⟩,λb hb=>?_⟩;rw[zd]
  .exact(hf b hb).1
  .obtain⟨o,q,_⟩:=(show ∃o,s.heap.get? b=some o/\True from by
    simp only[zZ9,z31,z57]at hb;obtain⟨y,e1,_⟩:=d;rcases hb with rfl|rfl
    .exact⟨_,h1,trivial⟩
    .exact⟨_,e1,trivial⟩)
   exact z30 (z07 q)
 done:=by
  intro X r hw m t i pins s B H E I hf st hg;subst r hw m;obtain⟨xs,a,F⟩:=hg;obtain⟨f,c,p1,n⟩:=I.list a;obtain⟨⟨old,h1⟩,d⟩:=st;refine wpAny_pyNext_enum_end (I.ok.hd t) h1 d p1.isList (by simp;exact z05 (z26 c.length.symm) F) λh' hk=>⟨rfl,?_⟩;exact I.turnL (λb o hb q=>by
   simp only[zZ9,z31,z57,not_or]at hb;exact hk b o hb.2 q) hf
 self:=λA i s Q E st h=>by
  obtain⟨⟨old,h1⟩,d⟩:=st;exact wpAny_pyIter_enum h1 h
section
variable {X:Cx}{L:Ev}{elts:List Ak}{kk:Nat}{tp p pos:Pos}{a b:Ak}
def zV5 (K:Ac)(c:TA):TI:=λB H R=>c B H λvs H1=>∃l1 l2,vs=[.ref l1,.ref l2]/\(∃xs,SqL K H1 l1 xs)/\(∃ys,SqL K H1 l2 ys)/\R (Itz K l1 l2) H1
def zA7 {t:TA}(hg:Gl X "zip")(hm:X.mg "zip"=none)(ha:PA X [a,b] t)(C:Af [a,b] X.env=[(false,eval a X.env),(false,eval b X.env)]:=by rfl)(c:Af [b] X.env=[(false,eval b X.env)]:=by rfl):
  PI X (.Tuple elts kk tp) (.Call (.Name "zip" p) [a,b] [] pos) (zV5 X.K t):=by
 intro pins s B H R I h;refine Call_ (yR I hg hm boot_zip (z45 (thn (ha pos pins s B H _ I h) λus s1 ⟨vs,H1,f,A,x⟩=>?_) (by rw[C,c]) (by rw[c];rfl)));obtain⟨l1,l2,e,⟨xs,g⟩,⟨ys,i⟩,q⟩:=x;subst e;obtain⟨u,v,rfl,F,G⟩:=Vals.two A;cases(F);cases(G);obtain⟨l,N,p1,D⟩:=f.list g;obtain⟨r,E,p2,w⟩:=f.list i;refine call_zip_2 p1.isList p2.isList λh' m M z3 J y O hk=>wpAny_pyIter_zip m ?_;have j:l1<s1.heap.objs.size:=by obtain⟨o,e,_⟩:=p1.isList;exact z07 e
 have k:l2<s1.heap.objs.size:=by obtain⟨o,e,_⟩:=p2.isList;exact z07 e
 refine⟨_,_,_,_,H1,rfl,f.kept λb o e=>hk b o e,za9 (gB _ _ _ j k),⟨m,M,⟨_,_,z3⟩,J,y⟩,λb hb=>?_,q⟩;simp only[zZ9,z31,z57]at hb;have d:s1.heap.objs.size<=b:=by
  have key:∀n b:Nat,n=s1.heap.objs.size->(b=n+4\/b=n+2\/b=n+3\/b=n\/b=n+1)->n<=b:=λn b _ h=>by lia
  exact key _ _ rfl (by rcases hb with z|z|z|z|z<;>simp[z])
 exact f.fpOk d (f.hok.fresh d)
def zN8 (K:Ac)(c:TA):TI:=λB H R=>c B H λvs H1=>∃l,vs=[.ref l]/\(∃xs,SqL K H1 l xs)/\R (Ite K l) H1
def zk1 {k:TA}(hg:Gl X "enumerate")(hm:X.mg "enumerate"=none)(ha:PA X [a] k)(r:Af [a] X.env=[(false,eval a X.env)]:=by rfl):
  PI X (.Tuple elts kk tp) (.Call (.Name "enumerate" p) [a] [] pos) (zN8 X.K k):=by
 intro pins s B H R I h;refine Call_ (yR I hg hm boot_enumerate (z45 (thn (ha pos pins s B H _ I h) λus s1 g=>?_) r rfl));obtain⟨vs,H1,d,m,l⟩:=g;obtain⟨l1,e,⟨xs,f⟩,q⟩:=l;subst e;obtain⟨u,rfl,v⟩:=Vals.one m;cases(v);obtain⟨i,x,p1,t⟩:=d.list f;refine call_enumerate_list p1.isList λh' j w y hk=>wpAny_pyIter_enum j ?_;refine⟨_,_,_,_,H1,rfl,d.kept λb o e=>hk b o e,gn (ah (z64 _)),⟨⟨_,j⟩,w⟩,λb hb=>?_,q⟩;simp only[zZ9,z31,z57]at hb;have c:s1.heap.objs.size<=b:=by
  have key:∀n b:Nat,n=s1.heap.objs.size->(b=n+1\/b=n)->n<=b:=λn b _ h=>by lia
  exact key _ _ rfl hb
 exact d.fpOk c (d.hok.fresh c)
noncomputable def fj (ds c:List Aa):List Aa:=List.zipWith (λd e=>.tuple [d,e]) ds c
def ag {Q:List Aa->Prop}(hg:Gl X "zip")(hm:X.mg "zip"=none)(h:EvD X L a λx=>EvD X L b λy=>∃ds j,x=.list ds/\y=.list j/\Q (fj ds j))
  (U:Af [a,b] X.env=[(false,eval a X.env),(false,eval b X.env)]:=by rfl) (f:Af [b] X.env=[(false,eval b X.env)]:=by rfl) (n:Af [a,b] X.env=(false,eval a X.env)::Af [b] X.env:=by rfl):
  EvI X L (.Tuple elts kk tp) (.Call (.Name "zip" p) [a,b] [] pos) Q:=λF B H R m k=>by
 refine⟨_,zA7 hg hm (zr zf (zr zf zD f) n) U f,h F B H _ m λx W H1 J t1 w O=>?_⟩;have m1:=m.kz w t1;refine J F B H1 _ m1 λy vy I M P D V=>?_;obtain⟨ds,j,rfl,rfl,q⟩:=M;obtain⟨l1,xs,rfl,g1,g2⟩:=(O.same (D.gz m1.tp)).lst_inv;obtain⟨l2,ys,rfl,g3,G⟩:=V.lst_inv;refine⟨l1,l2,rfl,⟨xs,SqL.of (zc g1).2⟩,⟨ys,SqL.of (zc g3).2⟩,k _ _ I q P (w.trans D) λi S p s=>⟨λd hd=>?_,λC=>?_⟩⟩
 .have s1:=SqL.of (K:=X.K) (zc (s _ _ g1)).2;have s2:=SqL.of (K:=X.K) (zc (s _ _ g3)).2;unfold fj at hd;rw[List.getElem?_zipWith]at hd;cases e1:ds[i]? with
  |none=>rw[e1]at hd;cases hd
  |some d1=>
   cases e2:j[i]? with
   |none=>rw[e1,e2]at hd;cases hd
   |some Z=>
    rw[e1,e2]at hd;cases hd;obtain⟨x1,c,t⟩:=g2.get e1;obtain⟨A,g,r⟩:=G.get e2;refine⟨⟨xs,ys,x1,A,s1,s2,c,g⟩,λv Y y=>?_⟩;obtain⟨T,x,y,rfl,u,rfl,l,hy⟩:=y;have l:=l _ s1;have hy:=hy _ s2;rw[c]at l;cases l;rw[g]at hy;cases hy;refine⟨zH u,λfr=>?_⟩;have z:zz (Gz F L B I) (sub p (upd S T (.tup [x1,A]))):=λa o e=>by
     obtain⟨N,E⟩:=zc (s a o e);exact zy N (by rw[zd (zj E u)];exact E)
    exact .tup (zy (fr T _ zg u) zg) (.cons (t.same z) (.cons (r.same z) .nil))
 .refine⟨xs,ys,SqL.of (zc (s _ _ g1)).2,SqL.of (zc (s _ _ g3)).2,?_⟩;unfold fj at C;rw[List.length_zipWith,<-g2.length,<-G.length]at C
  lia
noncomputable def tG (n:Nat):List Aa->List Aa
 |[]=>[]
 |d::ds=>.tuple [.int n,d]::tG (n+1) ds
theorem wa :∀{ds:List Aa}{n i:Nat}{d:Aa},(tG n ds)[i]?=some d->∃e,ds[i]?=some e/\d=.tuple [.int ((n+i:Nat):Int),e]
 |[],n,i,d,h=>by simp[tG]at h
 |e::ds,n,0,d,h=>by simp[tG]at h;exact⟨e,rfl,by simp[<-h]⟩
 |e::ds,n,i+1,d,h=>by
  simp only[tG,yg1]at h;obtain⟨c,h1,h2⟩:=wa h;exact⟨c,by simpa using h1,by rw[h2,Nat.add_assoc,Nat.add_comm 1 i]⟩
theorem xX :∀(ds:List Aa) (n:Nat),(tG n ds).length=ds.length
 |[],_=>rfl
 |_::ds,n=>by simp[tG,xX ds (n+1)]
def pR {Q:List Aa->Prop}(hg:Gl X "enumerate")(hm:X.mg "enumerate"=none)(h:EvD X L a λx=>∃ds,x=.list ds/\Q (tG 0 ds))(n:Af [a] X.env=[(false,eval a X.env)]:=by rfl):
  EvI X L (.Tuple elts kk tp) (.Call (.Name "enumerate" p) [a] [] pos) Q:=λF B H R m k=>by
 refine⟨_,zk1 hg hm (zr zf zD n) n,h F B H _ m λx D H1 u t1 t A=>?_⟩;obtain⟨ds,rfl,q⟩:=u;obtain⟨l1,xs,rfl,g1,g2⟩:=A.lst_inv;refine⟨l1,rfl,⟨xs,SqL.of (zc g1).2⟩,k _ _ H1 q t1 t λi C p s=>⟨λd hd=>?_,λl=>?_⟩⟩
 .have s1:=SqL.of (K:=X.K) (zc (s _ _ g1)).2;obtain⟨e,he,rfl⟩:=wa hd;obtain⟨x1,c,g⟩:=g2.get he;refine⟨⟨xs,x1,s1,c⟩,λv E y=>?_⟩;obtain⟨T,x,rfl,j,rfl,f⟩:=y;have f:=f _ s1;rw[c]at f;cases f;refine⟨zH j,λfr=>?_⟩;have w:zz (Gz F L B H1) (sub p (upd C T (.tup [.int i,x1]))):=λa o e=>by
   obtain⟨z,r⟩:=zc (s a o e);exact zy z (by rw[zd (zj r j)];exact r)
  refine .tup (zy (fr T _ zg j) zg) (.cons ?_ (.cons (g.same w) .nil));rw[yi9];exact .int _
 .refine⟨xs,SqL.of (zc (s _ _ g1)).2,?_⟩;rw[xX,<-g2.length]at l;exact l
end
structure Cal (P:Ag)(w:Ai)(K:Ac)(mg:Str->Option Ab)(base:Ao)(x:Str)(k:Nat)(φ:List A->(A->Prop)->Prop):Prop where
 ex:∃f fd ps,mg x=some (.ref f)/\PySem.W.keepIn K (.ref f)=true/\Binds K fd ps []/\yE P w K mg base CX0 k f fd ps (spA φ)
section
variable {X:Cx}{L:Ev}{e a b:Ak}{es:List Ak}{pos p:Pos}{Q:Aa->Prop}{k:Nat}{φ:List A->(A->Prop)->Prop}{x:Str}
def oY (C:Cal X.prog X.w X.K X.mg X.base x k φ)(hr:zR k X.A)(hg:Gl X x)(h:EvA X L (e::es) λas=>φ as λa=>Q a.d)
  (c:(x == ("__debug__":Str))=false:=by decide) (he:Af (e::es) X.env=(false,eval e X.env)::Af es X.env:=by rfl) (hpl:(backTo pos (Af es X.env)).any (·.1)=false:=by rfl):EvD X L (.Call (.Name x p) (e::es) [] pos) Q:=by
 obtain⟨f,fd,ps,h1,h2,h3,g⟩:=C.ex;exact zo1 g hr hg h1 h2 h3 h c he hpl
def wX {Q:List Aa->Prop}(C:Cal X.prog X.w X.K X.mg X.base x k φ)(hr:zR k X.A)(hg:Gl X x)(h:EvA X L (e::es) λas=>φ as λa=>∃ds,a=.own ds/\Q ds)
  (c:(x == ("__debug__":Str))=false:=by decide) (he:Af (e::es) X.env=(false,eval e X.env)::Af es X.env:=by rfl) (hpl:(backTo pos (Af es X.env)).any (·.1)=false:=by rfl):EvL X L (.Call (.Name x p) (e::es) [] pos) Q:=by
 obtain⟨f,fd,ps,h1,h2,h3,d⟩:=C.ex;exact zs5 d hr hg h1 h2 h3 h c he hpl
end
section
variable {P:Ag}{w:Ai}{K:Ac}{mg:Str->Option Ab}{base:Ao}
def zY6 {x qual:Str}{st:An}{f:Ae}{fd:Ap}{N ps:List Str}{k:Nat}{φ:List A->(A->Prop)->Prop}(G:Fun K x qual st f fd)(hm:mg x=some (.ref f))(hb:Binds K fd ps [])(S:ya N ps (zh st))(hlen:∀as Q,φ as Q->as.length=ps.length)
  (a:∀(cdv:Ab) (b:Am) (outer:List Ar) (s:Ad) (H:Hp) (E:XK) (as:List A) (Q:A->Prop),zR k (b.deeper (envOfC qual (zh st) s.heap.objs.size f cdv))->φ as Q->
   SvS (vv CX0 P w K mg base N qual (zh st) f cdv b outer s H E).nox (as.map some++List.replicate (N.length-as.length) none) (zt st) {nx:=λ_=>Q (.dat .none),rt:=Q}):Cal P w K mg base x (k+1) φ:=
 ⟨f,fd,ps,hm,G.kp,hb,fnA G S hlen a⟩
theorem Cal.imp {x:Str}{k:Nat}{φ i:List A->(A->Prop)->Prop}(C:Cal P w K mg base x k φ)(h:∀as Q,i as Q->φ as Q):Cal P w K mg base x k i:=by
 obtain⟨f,fd,ps,h1,h2,h3,m⟩:=C.ex;exact⟨f,fd,ps,h1,h2,h3,m.imp λvs H Q E j=>by obtain⟨F,as,l,a,b,c,d,e,g⟩:=j;exact⟨F,as,l,a,b,c,d,h _ _ e,g⟩⟩
def yL :List A->(A->Prop)->Prop:=λas Q=>∃n:Int,as=[.tape,.dat (.int n)]/\0<n/\n<big/\∀v,0<=v->v<n->Q (.dat (.int v))
theorem zb8 {f:Ae}{fd:Ap}{x:Str}(hm:mg x=some (.ref f))(hk:PySem.W.keepIn K (.ref f)=true)(hb:Binds K fd ["_law_tape_here","_law_many"] [])(G:yE P w K mg base CX0 1 f fd ["_law_tape_here","_law_many"] za2):Cal P w K mg base x 1 yL:=by
 refine⟨f,fd,_,hm,hk,hb,G.imp λvs H Q E h=>?_⟩;obtain⟨F,as,m,rfl,t,o,l,⟨n,rfl,h0,h1,hq⟩,g⟩:=h;cases l with
 |cons a1 r=>
  obtain⟨a,b,c,e,rfl⟩:=a1;obtain⟨v,rfl,av⟩:=r.one;cases av.int_inv;refine⟨a,b,c,n,rfl,(t a b c e).1,h0,h1,λz H' k j TA off=>g _ _ _ (hq z k j) ⟨⟨(by
   obtain⟨_,_,_,_,e1,i,_⟩:=(t a b c e).1.ex;exact zk5 t.tab e1 i off),t.ot,λt' p c' d=>?_⟩,λy u hy n=>?_,.int z⟩⟩
  .rw[e]at d;cases d;exact⟨TA,(t a b c e).2⟩
  .rw[off y (n.1 _ _ _ e).1 (n.1 _ _ _ e).2];exact hy
theorem M.tape {H:Hp}{t b c:Ae}{L:Ev}{B:St}(T:yy H t b c)(g:TabAt H)(k:L.length=B.length)(h:∀(i:Nat) a,L[i]?=some (some a)->a=.tape/\B[i]?=some (some (.ref t))):M ⟨H,λx=>x=t\/x=b\/x=c\/qh x,some (t,b,c)⟩ L B H:=by
 refine⟨k,λi a s e1 d=>?_,λi j a b s u x e1 _ _ _ f=>?_,λi r q e=>?_,⟨g,λx z=>.inr (.inr (.inr z)),λt' p c' e=>?_⟩,λ_ _ e _=>e,λx m=>?_⟩
 .obtain⟨rfl,z⟩:=h i a e1;rw[z]at d;cases d;exact⟨t,b,c,rfl,rfl⟩
 .obtain⟨rfl,_⟩:=h i a e1;exact f.elim
 .cases(h i _ e).1
 .cases e;exact⟨T,.inl rfl,.inr (.inl rfl),.inr (.inr (.inl rfl))⟩
 .obtain⟨n,bs,cs,_,e1,d,l,_⟩:=T.ex;rcases m with rfl|rfl|rfl|z
  .exact⟨_,e1,yT⟩
  .exact⟨_,d,yT⟩
  .exact⟨_,l,yT⟩
  .obtain⟨o,h1,h2,_⟩:=oC g z;exact⟨o,h1,h2⟩
def zW1 {st:An}{f fT:Ae}{fd g:Ap}{j:List Str}{k:Nat}{p1 p2 p3 p4 p5:Pos}{rest:List An}(G:Fun K "law" "law" st f fd)(S:ya ("_law_script"::"_law_tape_here"::j) ["_law_script"] (zh st))
  (GT:yE P w K mg base CX0 1 fT g ["_law_script"] (kC K)) (C:mg "_law_tape"=some (.ref fT)) (A:PySem.W.keepIn K (.ref fT)=true) (o:Binds K g ["_law_script"] [])
  (hb:zt st=.Assign [.Name "_law_tape_here" p1] (.Call (.Name "_law_tape" p2) [.Name "_law_script" p3] [] p4) p5::rest) (hgl:(zh st).names.lookup ("_law_tape":Str)=some .globalImplicit) (q:Loc (zh st) "_law_tape_here") (D:Vis (zh st) "_law_script")
  (d:∀(cdv:Ab) (l:Am) (outer:List Ar) (s:Ad) (H:Hp) (E:XK),zR (k+1) (l.deeper (envOfC "law" (zh st) s.heap.objs.size f cdv))->
   SvS (vv CX0 P w K mg base ("_law_script"::"_law_tape_here"::j) "law" (zh st) f cdv l outer s H E).nox (none::some .tape::List.replicate j.length none) rest {nx:=λ_=>False,rt:=λa=>a=.dat (.bool true)}):
  yE P w K mg base CX0 (k+1+1) f fd ["_law_script"] (nR K):=by
 refine G.ok S (λvs H Q E h=>?_) (λcdv l outer s H vs F E hr h=>?_)
 .obtain⟨a,ns,rfl,_⟩:=h;rfl
 .obtain⟨a,ns,rfl,y,hn,n,m⟩:=h;rw[hb];refine xq (λB H1=>∃t b c,yy H1 t b c/\TabAt H1/\B=some (.ref a)::some (.ref t)::List.replicate j.length none)
   ⟨_,wk (i:=1) S.nd rfl q (pS GT (hr.mono (Nat.le_add_left _ _)) hgl C A o .nil qN (zr (xj (i:=0) rfl D) zD)),?_⟩ ?_
  .refine⟨.ref a,rfl,a,ns,rfl,y,hn,λt b c H' T _ _ _ p=>⟨t,b,c,T,aF n p,?_⟩⟩;unfold L2.start;simp[List.replicate_succ]
  .rintro B H1 ⟨t,b,c,T,u,rfl⟩;refine d cdv l outer s H E hr ⟨H1,λx=>x=t\/x=b\/x=c\/qh x,some (t,b,c)⟩ _ H1 _ (M.tape T u (by simp) λi z e=>?_) ⟨λ_ _ _ _ z=>z.elim,λz v H' r e=>?_,λ_ _ _ _ z=>z.elim,λ_ _ _ _ z=>z.elim⟩
   .cases i with
    |zero=>simp at e
    |succ i=>
     cases i with
     |zero=>simp at e;subst e;exact⟨rfl,rfl⟩
     |succ i=>
      simp only[yg1,ya6]at e;split at e<;>cases e
   .cases e;obtain⟨_,_,r⟩:=r;rw[AV.bl_inv r];exact m H'
end
section
variable {Y:Ae->Ad->Hp->List Ae->Cx}{pat:Pat}{ifs:List Ak}{elt:Ak}{α0:Ev}
theorem vU {ds acc:List Aa}{Q:List Aa->Prop}(p:Aa->Bool)(f:Aa->Aa)
  (g:∀d∈ds,∃a,pat.bind d α0=some a/\(∀C s2 b fp (Q:Bool->Prop),Q (p d)->ck (Y C s2 b fp) a ifs Q)/\(p d=true->∀C s2 b fp (Q:Aa->Prop),Q (f d)->EvD (Y C s2 b fp) a elt Q))
  (hd:Q (acc++(ds.filter p).map f)):xp Y pat ifs elt α0 ds acc Q:=by
 induction ds generalizing acc with
 |nil=>
  show Q acc;simpa using hd
 |cons d ds h=>
  obtain⟨a,e,h1,h2⟩:=g d z03;refine⟨a,e,λC s2 b fp=>h1 C s2 b fp _ ?_⟩;have c:=λacc=>h (acc:=acc) λd hd=>g d (z01 _ hd);cases hp:p d with
  |true=>
   rw[if_pos rfl];refine λC s2 b fp=>h2 hp C s2 b fp _ (c _ ?_);simpa[ye1,hp]using hd
  |false=>
   rw[if_neg (by decide)];refine c _ ?_;simpa[ye1,hp]using hd
end
def zx4 {ds:List Aa}{v:Int}(h0:0<=v)(h1:v<ds.length):∃d,d∈ds/\atI ds v=some d:=by
 obtain⟨j,rfl⟩:=z66 h0;have a:=(om9 h1);exact⟨ds[j],z69 a,yn (zZ5 a)⟩
def kr (st:An)(env:Ar):execs [st] env=exec st env:=by
 rw[PySem.execs_cons];have:(λf:Flow=>(match f with|.next=>execs [] env|f=>pure f:Sem Flow))=pure:=by
  funext f
  cases f<;>rfl
 exact(congrArg (λg=>exec st env >>= g) this).trans (bind_pure _)
section
variable {X:Cx}{L:Ev}{e a b c:Ak}{es rest:List Ak}{pos p:Pos}{Q:Aa->Prop}{E:xf}{st:An}{sts sts':List An}
def yv (P:Ev->Prop)(h1:SvS X L [st] {E with nx:=P})(h2:∀d,P d->SvS X d sts E):SvS X L (st::sts) E:=λF B H D m r=>by
 refine xq (λf H'=>∃d,M F d f H'/\P d) ?_ ?_
 .obtain⟨t,p,q⟩:=h1 F B H {D with nx:=λf H'=>∃d,M F d f H'/\P d} m ⟨λd f H' g z=>⟨d,g,z⟩,r.rt,r.bk,r.ct⟩;exact⟨t,λpins s B H D I h=>(by
   have:=p pins s B H D I h;rw[kr]at this;exact this),q⟩
 .rintro f H' ⟨d,g,z⟩;exact h2 d z F f H' D g r
def zD2 {c:Prop}[Decidable c]{a b:List An}(h1:c->SvS X L a E)(h2:¬c->SvS X L b E):SvS X L (if decide c=true then a else b) E:=by
 by_cases h:c
 .rw[z39 h];exact h1 h
 .rw[z38 h];exact h2 h
theorem zv {k:Bool}{a b:List An}(h1:k=true->SvS X L a E)(h2:k=false->SvS X L b E):SvS X L (if k=true then a else b) E:=by
 cases k with
 |true=>exact h1 rfl
 |false=>exact h2 rfl
def iw {i j:Int}:Cmp rEq (.int i) (.int j) (decide (i=j)):=λp H k g R f d h=>by
 cases f.int_inv;cases d.int_inv;refine⟨rfl,?_⟩;rw[show decide (V.int i=V.int j)=decide (i=j) by simp];exact h
def zg7 {i j:Int}:Cmp rNe (.int i) (.int j) (!decide (i=j)):=λp H k g R f d h=>by
 cases f.int_inv;cases d.int_inv;refine⟨rfl,?_⟩;rw[show decide (V.int i=V.int j)=decide (i=j) by simp];exact h
def jU {i j:Str}:Cmp rEq (.str i) (.str j) (decide (i=j)):=λp H k g R f d h=>by
 cases f.str_inv;cases d.str_inv;refine⟨rfl,?_⟩;rw[show decide (V.str i=V.str j)=decide (i=j) by simp];exact h
noncomputable def dP {op:CmpOp}{r:R2}(t:OpR X (compareOp op) r)(hm:behindInMarks op b=false)(h:EvD X L a λx=>EvD X L b λy=>∃k,Cmp r x y k/\Q (.bool k)):EvD X L (.Compare a [op] [b] pos) Q:=λF B H R m k=>by
 refine⟨_,oZ t zf zf hm,h F B H _ m λx o H1 j t1 d v=>?_⟩;have m1:=m.kz d t1;refine j F B H1 _ m1 λy u g s i f n=>?_;obtain⟨b,l,q⟩:=s;exact l _ g o u _ (v.same (f.gz m1.tp)) n (k _ _ g q i (d.trans f) (.bl b))
def zG0 {Q:Bool->Prop}(h:EvD X L a λx=>EvD X L b λy=>∃i j,x=.int i/\y=.int j/\Q (decide (i=j))):EvT X L (.Compare a [.Eq] [b] pos) Q:=
 xR jo (yd _) (h.imp λx h=>h.imp λy d=>by obtain⟨i,j,e1,f,q⟩:=d;exact⟨_,by subst e1 f;exact iw,q⟩)
def zG8 {Q:Bool->Prop}(h:EvD X L a λx=>EvD X L b λy=>∃i j,x=.str i/\y=.str j/\Q (decide (i=j))):EvT X L (.Compare a [.Eq] [b] pos) Q:=
 xR jo (yd _) (h.imp λx h=>h.imp λy d=>by obtain⟨i,j,e1,f,q⟩:=d;exact⟨_,by subst e1 f;exact jU,q⟩)
theorem zi4 {p q:Bool}{Q:Bool->Prop}(ha:∀Q:Bool->Prop,Q p->EvT X L a Q)(hb:p=true->∀Q:Bool->Prop,Q q->EvW X L (.BoolOp .And (b::rest) pos) Q)(k:Q (p&&q)):EvW X L (.BoolOp .And (a::b::rest) pos) Q:=by
 refine dw (ha _ ?_);cases p with
 |true=>rw[if_pos rfl];exact hb rfl _ (by simpa using k)
 |false=>rw[if_neg (by decide)];simpa using k
def M.park {F:Fr}{B:St}{H H1:Hp}{l:Ae}{o:HO}(m:M F L B H)(d:Kz F H H1)(t1:zK F H1)(v:H l=none)(j:H1 l=some o)(no:wJ o):M ⟨F.H0,λx=>F.O0 x\/x=l,F.tp⟩ L B H1:=by
 have m1:=m.kz d t1;have C:zz (Gz F L B H) (Gz ⟨F.H0,λx=>F.O0 x\/x=l,F.tp⟩ L B H1):=λy o z=>by
  obtain⟨u,t⟩:=zc z;refine zy ?_ (d _ _ t (m.tp.nt (ow0 u)));rintro((w|w)|⟨i,a,s,e1,h,f⟩)
  .exact u (.inl w)
  .rw[w,v]at t;cases t
  .exact u (.inr ⟨i,a,s,e1,h,f⟩)
 refine⟨m.len,λi a s e1 h=>(m.ok i a s e1 h).stay C (λx o f e=>?_) rfl λr q _ y=>?_,m.dj,m.xd,t1.to rfl λ_ z=>.inl z,λy o z n=>m1.keep y o z n,λy z=>?_⟩
 .obtain⟨A,D,_⟩:=m.ft e1 h f;exact⟨d _ _ e (m.tp.nt A),λw=>w.elim A (λw=>by rw[w,v]at e;cases e),D⟩
 .have g:=y.kz d t1;exact⟨g.tp,λx z=>.inl (g.o x z),g.ok,g.k⟩
 .rcases z with z|z
  .exact m1.oex y z
  .exact⟨_,by rw[z];exact j,no⟩
end
structure NbT (mg:Str->Option Ab):Prop where
 abs:mg "abs"=none
 list:mg "list"=none
 len:mg "len"=none
 range:mg "range"=none
 min:mg "min"=none
 max:mg "max"=none
 sorted:mg "sorted"=none
 isinstance:mg "isinstance"=none
 int:mg "int"=none
 bool:mg "bool"=none
 str:mg "str"=none
 tuple:mg "tuple"=none
 all:mg "all"=none
 any:mg "any"=none
 repr:mg "repr"=none
 zip:mg "zip"=none
 enumerate:mg "enumerate"=none
 reversed:mg "reversed"=none
 sum:mg "sum"=none
def uc {X:Cx}{K:Ac}{a:List Ak}{k:Nat}{t:TGs}{n:Nat}{pos:Pos}(c:X.K=K)(d:X.calm=true)(h:PGs X a t)
  (hn:(assignEach a X.env).length=n:=by rfl) (b:(assignEach a X.env).findIdx? (·.1)=none:=by rfl):PG X (.Tuple a k pos) (cp K n t):=by
 subst c;exact zG2 d h hn b
end L2
namespace SortA
open PySem PySem.W PyProof.Rows
noncomputable def run {L:Type}(lt:Nat->Nat->Bool):KasT L->L
 |.ret a=>a
 |.ask i j k=>run lt (k (lt i j))
theorem run_bind {L β:Type}(lt:Nat->Nat->Bool)(f:L->KasT β):∀t:KasT L,run lt (t.bind f)=run lt (f (run lt t))
 |.ret _=>rfl
 |.ask i j k=>run_bind lt f (k (lt i j))
structure Ord (lt:Nat->Nat->Bool):Prop where
 irr:∀a,lt a a=false
 tr:∀a b c,lt b a=false->lt c b=false->lt c a=false
 asy:∀a b,lt a b=true->lt b a=false
noncomputable abbrev g (p:Array Nat)(i:Nat):Nat:=p.getD i 0
def Up (lt:Nat->Nat->Bool)(p:Array Nat)(m:Nat):Prop:=∀i j,i<=j->j<m->lt (g p j) (g p i)=false
def Down (lt:Nat->Nat->Bool)(p:Array Nat)(m:Nat):Prop:=∀i j,i<=j->j<m->lt (g p i) (g p j)=false
def bI {p q:Array Nat}{i j:Nat}(h:p[i]?=q[j]?):g p i=g q j:=by
 unfold g;rw[Array.getD_eq_getD_getElem?,Array.getD_eq_getD_getElem?,h]
variable {lt:Nat->Nat->Bool}
def Up.succ (O:Ord lt){p:Array Nat}{m:Nat}(h:Up lt p m)(hm:0<m)(e:lt (g p m) (g p (m-1))=false):Up lt p (m+1):=λi j a d=>by
 by_cases e1:j<m
 .exact h i j a e1
 .have c:=(ya2 (z94 d) (z98 e1));subst c;by_cases b:i=j
  .subst b;exact O.irr _
  .exact O.tr _ _ _ (h i (j-1) (zx7 a b) (rP hm)) e
def Down.succ (O:Ord lt){p:Array Nat}{m:Nat}(h:Down lt p m)(hm:0<m)(e:lt (g p (m-1)) (g p m)=false):Down lt p (m+1):=λi j a d=>by
 by_cases e1:j<m
 .exact h i j a e1
 .have c:=(ya2 (z94 d) (z98 e1));subst c;by_cases b:i=j
  .subst b;exact O.irr _
  .exact O.tr _ _ _ e (h i (j-1) (zx7 a b) (rP hm))
def zB4 (O:Ord lt)(p:Array Nat):Up lt p 1:=λi j a b=>by rw[((zw2 b a)),((zx5 b))];exact O.irr _
theorem lF (O:Ord lt)(p:Array Nat):∀(f n:Nat),0<n->Up lt p n->n<=run lt (kas_asc p f n)/\run lt (kas_asc p f n)<=n+f/\Up lt p (run lt (kas_asc p f n))/\
  (run lt (kas_asc p f n)<n+f->lt (g p (run lt (kas_asc p f n))) (g p (run lt (kas_asc p f n)-1))=true)
 |0,n,_,h=>⟨zZ8 _,zZ8 _,h,λz=>absurd z (z56 _)⟩
 |f+1,n,hn,h=>by
  show n<=run lt ((λc=>if c=true then KasT.ret n else kas_asc p f (n+1)) (lt (p.getD n 0) (p.getD (n-1) 0)))/\_;cases e:lt (p.getD n 0) (p.getD (n-1) 0)with
  |true=>
   have i:run lt (kas_asc p (f+1) n)=n:=by
    show run lt ((λc=>if c=true then KasT.ret n else kas_asc p f (n+1)) (lt (p.getD n 0) (p.getD (n-1) 0)))=n;rw[e];rfl
   rw[i];exact⟨zZ8 _,(z23 _ _),h,λ_=>e⟩
  |false=>
   have i:run lt (kas_asc p (f+1) n)=run lt (kas_asc p f (n+1)):=by
    show run lt ((λc=>if c=true then KasT.ret n else kas_asc p f (n+1)) (lt (p.getD n 0) (p.getD (n-1) 0)))=_;rw[e];rfl
   rw[i];obtain⟨a,b,c,d⟩:=lF O p f (n+1) (yf8 _) (h.succ O hn e);exact⟨by show n<=run lt (kas_asc p f (n+1));exact z05 (z23 _ _) a,(iC b),c,λz=>d (by lia)⟩
def tw {p:Array Nat}{i j:Nat}(a:j<=p.size)(k:Nat):g (kas_rev p i j) k=if i<=k/\k<j then g p (i+j-1-k)else g p k:=by
 have h:=getElem?_mirror_all (i:=i) a k;split
 .rename_i c;rw[if_pos c]at h;exact bI h
 .rename_i c;rw[if_neg c]at h;exact bI h
def xB (p:Array Nat)(i j:Nat):(kas_rev p i j).size=p.size:=mirror_size _ _ _ _
def yN (p:Array Nat)(i j:Nat):(kas_rev p i j).Perm p:=mirror_perm _ _ _ _
def Eqv (lt:Nat->Nat->Bool)(a b:Nat):Prop:=lt a b=false/\lt b a=false
def Down.eqv (O:Ord lt){p q:Array Nat}{n:Nat}(h:Down lt p n)(e:∀k,k<n->Eqv lt (g q k) (g p k)):Down lt q n:=λi j a b=>
 O.tr _ _ _ (O.tr _ _ _ (e j b).2 (h i j a b)) (e i (z29 a b)).1
def Last (lt:Nat->Nat->Bool)(p:Array Nat)(n q:Nat):Prop:=∀a b,n<=a+(q+1)->a<n->n<=b+(q+1)->b<n->lt (g p a) (g p b)=false
def rev_last (O:Ord lt){p:Array Nat}{n q:Nat}(hn:n<=p.size)(hq:q<n)(L:Last lt p n q):∀k,k<n->Eqv lt (g (kas_rev p (n-(q+1)) n) k) (g p k):=λk hk=>by
 rw[tw hn];split
 .rename_i c;exact⟨L _ _ (zu5 hk) (zw8 c.2 c.1) (zx8 c.1) hk,L _ _ (zx8 c.1) hk (zu5 hk) (zw8 c.2 c.1)⟩
 .exact⟨O.irr _,O.irr _⟩
theorem tV (O:Ord lt):∀(f:Nat) (p:Array Nat) (n q:Nat),q<n->n+f<=p.size->Down lt p n->Last lt p n q->
  ∃i m j,run lt (kas_desc f p n q)=(i,m,j)/\n<=m/\m<=n+f/\i.size=p.size/\i.Perm p/\j<m/\Down lt i m/\Last lt i m j
 |0,p,n,q,hq,l,h,L=>⟨p,n,q,rfl,zZ8 _,zZ8 _,rfl,ye9 _,hq,h,L⟩
 |f+1,p,n,q,hq,l,h,L=>by
  cases e:lt (p.getD n 0) (p.getD (n-1) 0)with
  |true=>
   by_cases u:q > 0
   .have k:run lt (kas_desc (f+1) p n q)=run lt (kas_desc f (kas_rev p (n-(q+1)) n) (n+1) 0):=by
     show run lt ((λc=>if c=true then(if q > 0 then kas_desc f (kas_rev p (n-(q+1)) n) (n+1) 0 else kas_desc f p (n+1) 0)
      else .ask (p.getD (n-1) 0) (p.getD n 0) λd=>if d=true then .ret (p,n,q)else kas_desc f p (n+1) (q+1)) (lt (p.getD n 0) (p.getD (n-1) 0)))=_
     rw[e];show run lt (if q > 0 then _ else _)=_;rw[if_pos u]
    have ev:=rev_last O ((z05 (z23 _ _) l):n<=p.size) hq L;have h1:=h.eqv O ev;have hn:g (kas_rev p (n-(q+1)) n) n=g p n:=by rw[tw (z05 (z23 _ _) l),if_neg (zv0)]
    have h2:=h1.succ O (z29 (z21 _) hq) (by
     rw[hn];exact O.tr _ _ _ (O.asy _ _ e) (ev (n-1) (rP hq)).1)
    obtain⟨i,m,j,a,b,c,t,v,o,s,r⟩:=tV O f (kas_rev p (n-(q+1)) n) (n+1) 0 (yf8 _) (by rw[xB];exact iJ l) h2 (λa b h1 h2 h3 w=>by rw[((qH h1 h2)),((qH h3 w))];exact O.irr _);exact⟨i,m,j,k.trans a,(z05 (z23 _ _) b),(iC c),by rw[t,xB],v.trans (yN _ _ _),o,s,r⟩
   .have k:run lt (kas_desc (f+1) p n q)=run lt (kas_desc f p (n+1) 0):=by
     show run lt ((λc=>if c=true then(if q > 0 then kas_desc f (kas_rev p (n-(q+1)) n) (n+1) 0 else kas_desc f p (n+1) 0)
      else .ask (p.getD (n-1) 0) (p.getD n 0) λd=>if d=true then .ret (p,n,q)else kas_desc f p (n+1) (q+1)) (lt (p.getD n 0) (p.getD (n-1) 0)))=_
     rw[e];show run lt (if q > 0 then _ else _)=_;rw[if_neg u]
    obtain⟨i,m,j,a,b,c,t,v,o,s,r⟩:=tV O f p (n+1) 0 (yf8 _) (iJ l) (h.succ O (z29 (z21 _) hq) (O.asy _ _ e)) (λa b h1 h2 h3 w=>by rw[((qH h1 h2)),((qH h3 w))];exact O.irr _);exact⟨i,m,j,k.trans a,(z05 (z23 _ _) b),(iC c),t,v,o,s,r⟩
  |false=>
   cases e2:lt (p.getD (n-1) 0) (p.getD n 0)with
   |true=>
    have k:run lt (kas_desc (f+1) p n q)=(p,n,q):=by
     show run lt ((λc=>if c=true then(if q > 0 then kas_desc f (kas_rev p (n-(q+1)) n) (n+1) 0 else kas_desc f p (n+1) 0)
      else .ask (p.getD (n-1) 0) (p.getD n 0) λd=>if d=true then .ret (p,n,q)else kas_desc f p (n+1) (q+1)) (lt (p.getD n 0) (p.getD (n-1) 0)))=_
     rw[e];show run lt ((λd=>if d=true then KasT.ret (p,n,q)else kas_desc f p (n+1) (q+1)) (lt (p.getD (n-1) 0) (p.getD n 0)))=_;rw[e2];rfl
    exact⟨p,n,q,k,zZ8 _,(z23 _ _),rfl,ye9 _,hq,h,L⟩
   |false=>
    have k:run lt (kas_desc (f+1) p n q)=run lt (kas_desc f p (n+1) (q+1)):=by
     show run lt ((λc=>if c=true then(if q > 0 then kas_desc f (kas_rev p (n-(q+1)) n) (n+1) 0 else kas_desc f p (n+1) 0)
      else .ask (p.getD (n-1) 0) (p.getD n 0) λd=>if d=true then .ret (p,n,q)else kas_desc f p (n+1) (q+1)) (lt (p.getD n 0) (p.getD (n-1) 0)))=_
     rw[e];show run lt ((λd=>if d=true then KasT.ret (p,n,q)else kas_desc f p (n+1) (q+1)) (lt (p.getD (n-1) 0) (p.getD n 0)))=_;rw[e2];rfl
    have z:Last lt p (n+1) (q+1):=λa b h1 h2 h3 w=>by
     have two:∀a,n+1<=a+(q+1+1)->a<n+1->Eqv lt (g p a) (g p (n-1)):=λa x1 y=>by
      by_cases x:a=n
      .rw[x];exact⟨e,e2⟩
      .exact⟨L a (n-1) (zw1 x1) (aI y x) (zy9) (rP hq),L (n-1) a (zy9) (rP hq) (zw1 x1) (aI y x)⟩
     exact O.tr _ _ _ (two b h3 w).2 (two a h1 h2).1
    obtain⟨i,m,j,a,b,c,t,v,o,s,r⟩:=tV O f p (n+1) (q+1) (Nat.add_lt_add_right hq _) (iJ l) (h.succ O (z29 (z21 _) hq) e2) z;exact⟨i,m,j,k.trans a,(z05 (z23 _ _) b),(iC c),t,v,o,s,r⟩
def zA6 {p:Array Nat}{n:Nat}(hn:n<=p.size)(h:Down lt p n):Up lt (kas_rev p 0 n) n:=λi j a b=>by
 rw[tw hn,tw hn,if_pos (⟨(z21 _),b⟩),if_pos (⟨(z21 _),(z29 a b)⟩)];exact h _ _ (by lia) (zs8 b)
def nP (O:Ord lt){p:Array Nat}{n nrem:Nat}(h0:0<n)(hn:n<=nrem)(e:nrem<=p.size)(h:Down lt p n):
  ∃d m,run lt (kas_tail3 n nrem p)=(m,d)/\1<=m/\m<=nrem/\d.size=p.size/\d.Perm p/\Up lt d m:=by
 obtain⟨a,b,c,_⟩:=lF O (kas_rev p 0 n) (nrem-n) n h0 (zA6 (z05 hn e) h);refine⟨kas_rev p 0 n,run lt (kas_asc (kas_rev p 0 n) (nrem-n) n),?_,by lia,(bu b hn),xB _ _ _,yN _ _ _,c⟩;unfold kas_tail3;rw[run_bind];rfl
def tm (O:Ord lt){p:Array Nat}{n nrem:Nat}(h0:0<n)(hn:n+1<=nrem)(r:nrem<=p.size)(h:Down lt p (n+1)):
  ∃c m,run lt (kas_descPart n nrem p)=(m,c)/\1<=m/\m<=nrem/\c.size=p.size/\c.Perm p/\Up lt c m:=by
 obtain⟨p1,m1,v,e,a1,a2,d,s,i,q,t⟩:=tV O (nrem-(n+1)) p (n+1) 0 (yf8 _) (by lia) h (λa b h1 h2 h3 u=>by rw[((qH h1 h2)),((qH h3 u))];exact O.irr _);unfold kas_descPart;rw[run_bind,e];dsimp only;split
 .obtain⟨c,m,l,f,o,j,k,g⟩:=nP O (z29 (z21 _) i) (bu a2 hn) (by rw[xB];exact z05 r (z26 d.symm)) (q.eqv O (rev_last O (by lia) i t));exact⟨c,m,l,f,o,by rw[j,xB,d],(k.trans (yN _ _ _)).trans s,g⟩
 .obtain⟨c,m,l,f,o,j,k,g⟩:=nP O (z29 (z21 _) i) (bu a2 hn) (z05 r (z26 d.symm)) q;exact⟨c,m,l,f,o,by rw[j,d],k.trans s,g⟩
def bA (O:Ord lt){p:Array Nat}{nrem:Nat}(h0:0<nrem)(h:nrem<=p.size):
  ∃l m,run lt (kas_count nrem p)=(m,l)/\1<=m/\m<=nrem/\l.size=p.size/\l.Perm p/\Up lt l m:=by
 obtain⟨a,b,c,d⟩:=lF O p (nrem-1) 1 (by decide) (zB4 O p);unfold kas_count;rw[run_bind];generalize run lt (kas_asc p (nrem-1) 1)=n at a b c d;by_cases q:n=nrem
 .rw[if_pos (by rw[q];simp)];exact⟨p,n,rfl,a,(z26 q),rfl,ye9 _,c⟩
 .rw[if_neg (by simpa using q)];have hd:=d (by lia);by_cases h1:n > 1
  .rw[if_pos h1];cases e:lt (p.getD 0 0) (p.getD (n-1) 0)with
   |true=>
    refine⟨p,n,?_,a,by lia,rfl,ye9 _,c⟩;show run lt ((λc=>if c=true then KasT.ret (n,p)else kas_descPart n nrem (kas_rev p 0 n)) (lt (p.getD 0 0) (p.getD (n-1) 0)))=_;rw[e];rfl
   |false=>
    have all:∀k,k<n->Eqv lt (g p k) (g p 0):=λk hk=>⟨c 0 k (z21 _) hk,O.tr _ _ _ (c k (n-1) (zs9 hk) (zy2 h1)) e⟩;have t:Down lt (kas_rev p 0 n) (n+1):=by
     have h2:Down lt (kas_rev p 0 n) n:=λi j f o=>by
      rw[tw (jr h0 h b),tw (jr h0 h b),if_pos (⟨(z21 _),(z29 f o)⟩),if_pos (⟨(z21 _),o⟩)];exact O.tr _ _ _ (all _ (by lia)).2 (all _ (zs8 o)).1
     refine h2.succ O (z29 (z21 _) h1) ?_;rw[tw (jr h0 h b),tw (jr h0 h b),if_pos (by lia),if_neg (zv0)];exact O.tr _ _ _ (O.asy _ _ hd) (O.tr _ _ _ (all (n-1) (zy2 h1)).2 (all _ (by lia)).1)
    obtain⟨l,m,x,r,y,u,w,s⟩:=tm O (nrem:=nrem) (z29 (z21 _) h1) (by lia) (by rw[xB];exact h) t;refine⟨l,m,?_,r,y,by rw[u,xB],w.trans (yN _ _ _),s⟩;rw[<-x];show run lt ((λc=>if c=true then KasT.ret (n,p)else kas_descPart n nrem (kas_rev p 0 n)) (lt (p.getD 0 0) (p.getD (n-1) 0)))=_;rw[e];rfl
  .rw[if_neg h1];have e1:=(ya2 (z98 h1) a);subst e1;refine tm O (by decide) (by lia) h ?_;have v:Down lt p 1:=λi j f o=>by rw[((zw2 o f)),((zx5 o))];exact O.irr _
   exact v.succ O (by decide) (O.asy _ _ hd)
theorem qj (O:Ord lt){p:Array Nat}{k:Nat}(U:Up lt p k):∀(f l r:Nat),r<=l+f->l<=r->r<=k->(∀i,i<l->lt (g p k) (g p i)=false)->(∀i,r<=i->i<k->lt (g p k) (g p i)=true)->
  run lt (kas_place p k f l r)<=k/\(∀i,i<run lt (kas_place p k f l r)->lt (g p k) (g p i)=false)/\(∀i,run lt (kas_place p k f l r)<=i->i<k->lt (g p k) (g p i)=true)
 |0,l,r,h1,h2,h3,ha,hb=>by
  show l<=k/\_;exact⟨(z05 h2 h3),ha,λi x y=>hb i (by have:l<=i:=x;lia) y⟩
 |f+1,l,r,h1,h2,h3,ha,hb=>by
  by_cases a:l≥r
  .have b:run lt (kas_place p k (f+1) l r)=l:=by
    show run lt (if l≥r then _ else _)=_;rw[if_pos a];rfl
   rw[b];exact⟨(z05 h2 h3),ha,λi x y=>hb i (z05 a x) y⟩
  .cases e:lt (p.getD k 0) (p.getD ((l+r) / 2) 0)with
   |true=>
    have b:run lt (kas_place p k (f+1) l r)=run lt (kas_place p k f l ((l+r) / 2)):=by
     show run lt (if l≥r then _ else _)=_;rw[if_neg a];show run lt ((λc=>if c=true then kas_place p k f l ((l+r) / 2)else kas_place p k f ((l+r) / 2+1) r) (lt (p.getD k 0) (p.getD ((l+r) / 2) 0)))=_;rw[e];rfl
    rw[b];refine qj O U f l ((l+r) / 2) (by lia) (by lia) (by lia) ha λi x y=>?_;cases e3:lt (g p k) (g p i)with
    |true=>rfl
    |false=>
     have d:=e;rw[(O.tr _ _ _ (U ((l+r) / 2) i x y) e3)]at d;cases d
   |false=>
    have b:run lt (kas_place p k (f+1) l r)=run lt (kas_place p k f ((l+r) / 2+1) r):=by
     show run lt (if l≥r then _ else _)=_;rw[if_neg a];show run lt ((λc=>if c=true then kas_place p k f l ((l+r) / 2)else kas_place p k f ((l+r) / 2+1) r) (lt (p.getD k 0) (p.getD ((l+r) / 2) 0)))=_;rw[e];rfl
    rw[b];exact qj O U f ((l+r) / 2+1) r (by lia) (by lia) h3 (λi hi=>O.tr _ _ _ (U i ((l+r) / 2) (z94 hi) (by lia)) e) hb
def gW (O:Ord lt){p:Array Nat}{k l:Nat}(hk:k<p.size)(n:l<=k)(U:Up lt p k)(ha:∀i,i<l->lt (g p k) (g p i)=false)(hb:∀i,l<=i->i<k->lt (g p k) (g p i)=true):Up lt (bubble p k (k-l)) (k+1):=by
 have e:∀i,g (bubble p k (k-l)) i=if i=l then g p k else if l<i/\i<=k then g p (i-1)else g p i:=λi=>by
  have h:=getElem?_bubble hk (k-l) (Nat.sub_le _ _) i;have o:k-(k-l)=l:=by lia
  rw[o]at h;by_cases c:i=l
  .rw[if_pos c]at h ⊢;exact bI h
  .rw[if_neg c]at h ⊢;by_cases m:l<i/\i<=k
   .rw[if_pos m]at h ⊢;exact bI h
   .rw[if_neg m]at h ⊢;exact bI h
 intro i j a b;have gl:g (bubble p k (k-l)) l=g p k:=by rw[e,if_pos rfl]
 have d:∀i,l<i->i<=k->g (bubble p k (k-l)) i=g p (i-1):=λi x y=>by rw[e,if_neg (yb1 x),if_pos ⟨x,y⟩]
 have f:∀i,i<l->g (bubble p k (k-l)) i=g p i:=λi x=>by rw[e,if_neg (z30 x),if_neg (by lia)]
 rcases Nat.lt_trichotomy i l with hi|hi|hi
 .rw[f i hi];rcases Nat.lt_trichotomy j l with h|h|h
  .rw[f j h];exact U _ _ (a) (zZ7 h n)
  .rw[h,gl];exact ha i hi
  .rw[d j h (z94 b)];exact U _ _ (by lia) (zx0 b h)
 .rw[hi,gl];rcases Nat.lt_trichotomy j l with h|h|h
  .exact(z56 _ (zZ7 h (z05 (z26 hi.symm) a))).elim
  .rw[h,gl];exact O.irr _
  .rw[d j h (z94 b)];exact O.asy _ _ (hb (j-1) (zs9 h) (zx0 b h))
 .rw[d i hi (z94 (z29 a b)),d j (zZ7 hi a) (z94 b)];exact U _ _ (by lia) (by lia)
theorem cz (O:Ord lt):∀(f:Nat) (p:Array Nat) (k:Nat),0<k->k+f<=p.size->Up lt p k->(run lt (kas_bin f p k)).size=p.size/\(run lt (kas_bin f p k)).Perm p/\Up lt (run lt (kas_bin f p k)) (k+f)
 |0,p,k,_,_,U=>⟨rfl,ye9 _,U⟩
 |f+1,p,k,hk,hs,U=>by
  obtain⟨a,b,c⟩:=qj O U k 0 k (Nat.le_add_left _ _) (z21 _) (zZ8 _) (λi hi=>(z56 _ (z29 (z21 _) hi)).elim) (λi x y=>(z56 _ (zZ7 y x)).elim);have d:run lt (kas_bin (f+1) p k)=run lt (kas_bin f (bubble p k (k-run lt (kas_place p k k 0 k))) (k+1)):=by
   show run lt ((kas_place p k k 0 k).bind _)=_;rw[run_bind]
  rw[d];obtain⟨x,y,z⟩:=cz O f (bubble p k (k-run lt (kas_place p k k 0 k))) (k+1) (yf8 _) (by rw[bubble_size];exact iJ hs) (gW O (by lia) a U b c);have e:k+(f+1)=k+1+f:=zP7;rw[e];exact⟨by rw[x,bubble_size],y.trans (bubble_perm _ _ _),z⟩
def zr3 (O:Ord lt){n:Nat}(h:0<n):(run lt (kas_sort n)).size=n/\(run lt (kas_sort n)).Perm (List.range n).toArray/\Up lt (run lt (kas_sort n)) n:=by
 obtain⟨p,m,e,a,b,c,d,u⟩:=bA O (p:=(List.range n).toArray) h (by simp);unfold kas_sort;rw[run_bind,e];dsimp only;have f:p.size=n:=by rw[c];simp
 by_cases hm:m<n
 .rw[if_pos hm];have em:max m 1=m:=by lia
  rw[em];obtain⟨x,y,z⟩:=cz O (n-m) p m (by lia) (by lia) u;refine⟨by rw[x,f],y.trans d,?_⟩;have e:m+(n-m)=n:=by lia
  rw[e]at z;exact z
 .rw[if_neg hm];have e:=(ya2 b (z98 hm));subst e;exact⟨f,d,u⟩
end SortA
namespace SortA
open PySem PySem.W PyProof.Rows
def xF {L:Type}(n:Nat)(P:L->Prop):KasT L->Prop
 |.ret a=>P a
 |.ask i j k=>i<n/\j<n/\∀b,xF n P (k b)
theorem xF.bind {L β:Type}{n:Nat}{P:L->Prop}{d:β->Prop}{f:L->KasT β}(h2:∀a,P a->xF n d (f a)):∀t:KasT L,xF n P t->xF n d (t.bind f)
 |.ret a,h=>h2 a h
 |.ask i j k,⟨a,b,c⟩=>⟨a,b,λx=>xF.bind h2 (k x) (c x)⟩
def Bd (n:Nat)(p:Array Nat):Prop:=∀x∈p,x<n
def Bd.get {n:Nat}{p:Array Nat}(h:Bd n p)(hn:0<n)(i:Nat):p.getD i 0<n:=by
 by_cases hi:i<p.size
 .have e:p.getD i 0=p[i]:=by simp[Array.getD,hi]
  rw[e];exact h _ (Array.getElem_mem hi)
 .have e:p.getD i 0=0:=by simp[Array.getD,hi]
  rw[e];exact hn
def Bd.perm {n:Nat}{p q:Array Nat}(h:Bd n p)(e:q.Perm p):Bd n q:=λx a=>h x (e.mem_iff.mp a)
theorem sV {n:Nat}{p:Array Nat}(B:Bd n p)(hn:0<n):∀f k,xF n (λ_=>True) (kas_asc p f k)
 |0,_=>trivial
 |f+1,k=>⟨B.get hn _,B.get hn _,λb=>by
  cases b with
  |true=>exact trivial
  |false=>exact sV B hn f (k+1)⟩
theorem vk {n:Nat}(hn:0<n):∀f (p:Array Nat) k q,Bd n p->xF n (λr:Array Nat×Nat×Nat=>Bd n r.1) (kas_desc f p k q)
 |0,_,_,_,B=>B
 |f+1,p,k,q,B=>⟨B.get hn _,B.get hn _,λb=>by
  cases b with
  |true=>
   show xF n _ (if q > 0 then _ else _);split
   .exact vk hn f _ _ _ (B.perm (yN _ _ _))
   .exact vk hn f _ _ _ B
  |false=>
   refine⟨B.get hn _,B.get hn _,λb=>?_⟩;cases b with
   |true=>exact B
   |false=>exact vk hn f _ _ _ B⟩
def qg {n:Nat}{p:Array Nat}(B:Bd n p)(hn:0<n)(m r:Nat):xF n (λr:Nat×Array Nat=>Bd n r.2) (kas_tail3 m r p):=by
 unfold kas_tail3;refine xF.bind (λa _=>?_) _ (sV (B.perm (yN _ _ _)) hn _ _);exact B.perm (yN _ _ _)
def vC {n:Nat}{p:Array Nat}(B:Bd n p)(hn:0<n)(m r:Nat):xF n (λr:Nat×Array Nat=>Bd n r.2) (kas_descPart m r p):=
 xF.bind (λa ha=>by
  split
  .exact qg (Bd.perm ha (yN _ _ _)) hn _ _
  .exact qg ha hn _ _) _ (vk hn _ _ _ _ B)
def jh {n:Nat}{p:Array Nat}(B:Bd n p)(hn:0<n)(r:Nat):xF n (λr:Nat×Array Nat=>Bd n r.2) (kas_count r p):=
 xF.bind (λa _=>by
  split
  .exact B
  .split
   .refine⟨B.get hn _,B.get hn _,λb=>?_⟩;cases b with
    |true=>exact B
    |false=>exact vC (B.perm (yN _ _ _)) hn _ _
   .exact vC B hn _ _) _ (sV B hn _ _)
theorem vG {n:Nat}{p:Array Nat}(B:Bd n p)(hn:0<n)(k:Nat):∀f l r,xF n (λ_=>True) (kas_place p k f l r)
 |0,_,_=>trivial
 |f+1,l,r=>by
  show xF n _ (if l≥r then _ else _);split
  .exact trivial
  .refine⟨B.get hn _,B.get hn _,λb=>?_⟩;cases b with
   |true=>exact vG B hn k f _ _
   |false=>exact vG B hn k f _ _
theorem mN {n:Nat}(hn:0<n):∀f (p:Array Nat) k,Bd n p->xF n (λ_=>True) (kas_bin f p k)
 |0,_,_,_=>trivial
 |f+1,p,k,B=>xF.bind (λl _=>mN hn f _ _ (B.perm (bubble_perm _ _ _))) _ (vG B hn k _ _ _)
def fi {n:Nat}(hn:0<n):xF n (λ_=>True) (kas_sort n):=
 xF.bind (λa ha=>by
  split
  .exact mN hn _ _ _ ha
  .trivial) _ (jh (λx b=>by simpa using b) hn n)
theorem wp_run {L:Type}{n:Nat}{P:L->Prop}{cmp:Nat->Nat->(Bool->Ad->Prop)->Ad->Prop}{lt:Nat->Nat->Bool}{Q:L->Ad->Prop}{s:Ad}(d:∀i j C,i<n->j<n->C (lt i j) s->cmp i j C s):
  ∀t:KasT L,xF n P t->Q (run lt t) s->t.kasWp cmp Q s
 |.ret _,_,h=>h
 |.ask i j k,⟨a,b,c⟩,h=>d i j _ a b (wp_run d (k (lt i j)) (c _) h)
noncomputable def lx (p q:Int×Int):Bool:=decide (p.1<q.1\/(p.1=q.1/\p.2<q.2))
noncomputable def at2 (ps:List (Int×Int))(i:Nat):Int×Int:=ps.getD i (0,0)
def zE6 (ps:List (Int×Int)):Ord λi j=>lx (at2 ps i) (at2 ps j) where
 irr:=λa=>by simp[lx]
 tr:=λa b c=>by
  unfold lx;generalize at2 ps a=x;generalize at2 ps b=y;generalize at2 ps c=z;simp only[z92]
  lia
 asy:=λa b=>by
  unfold lx;generalize at2 ps a=x;generalize at2 ps b=y;simp only[z92,z55]
  lia
def lP (ps:List (Int×Int))(h:0<ps.length):∃d:List Nat,run (λi j=>lx (at2 ps i) (at2 ps j)) (kas_sort ps.length)=d.toArray/\d.length=ps.length/\(∀i∈d,i<ps.length)/\(d.map (at2 ps)).Perm ps/\(d.map (at2 ps)).Pairwise (λp q=>lx q p=false):=by
 obtain⟨a,b,c⟩:=zr3 (zE6 ps) h;generalize run (λi j=>lx (at2 ps i) (at2 ps j)) (kas_sort ps.length)=r at a b c;have e:(List.range ps.length).map (at2 ps)=ps:=by
  apply List.ext_getElem
  .simp
  .intro i h1 h2;simp[at2,h2]
 have pl:r.toList.Perm (List.range ps.length):=by
  have:=Array.perm_iff_toList_perm.mp b;simpa using this
 refine⟨r.toList,by simp,by simpa using a,λi hi=>by simpa using pl.mem_iff.mp hi,?_,?_⟩
 .have:=pl.map (at2 ps);rw[e]at this;exact this
 .rw[List.pairwise_map,ya0];intro i j hi m f;have h1:j<r.size:=by simpa using m
  have:=c i j (z58 f) (by rw[<-a];exact h1);have k:g r i=r.toList[i]:=by
   have:i<r.size:=by lia
   simp[g,Array.getD,this]
  have l:g r j=r.toList[j]:=by simp[g,Array.getD,h1]
  rw[k,l]at this;exact this
end SortA
namespace L2
open PySem PySem.Spec PySem.Calls PySem.W PyProof.Rows SortA
section
variable {prog:Ag}{w:Ai}{A:Am}{E:Ab->Ad->Prop}{s:Ad}
def Prs (h:Ao):List Ab->List (Int×Int)->Prop
 |[],[]=>True
 |v::vs,p::ps=>(∃a o t u n,v=.ref a/\h.get? a=some o/\o.cls=.type "tuple"/\o.data=.seq #[.int p.1 t,.int p.2 u] n)/\Prs h vs ps
 |_,_=>False
theorem Prs.len {h:Ao}:∀{vs:List Ab}{ps:List (Int×Int)},Prs h vs ps->vs.length=ps.length
 |[],[],_=>rfl
 |[],_::_,h=>h.elim
 |_::_,[],h=>h.elim
 |_::_,_::_,⟨_,h⟩=>by simp[Prs.len h]
theorem Prs.at {h:Ao}:∀{vs:List Ab}{ps:List (Int×Int)} (i:Nat),Prs h vs ps->i<ps.length->∃a o t u n,vs.getD i Value.none=.ref a/\h.get? a=some o/\o.cls=.type "tuple"/\o.data=.seq #[.int (at2 ps i).1 t,.int (at2 ps i).2 u] n
 |[],[],_,_,hi=>by simp at hi
 |[],_::_,_,h,_=>h.elim
 |_::_,[],_,h,_=>h.elim
 |_::_,_::_,0,⟨x,_⟩,_=>x
 |_::_,_::_,i+1,⟨_,r⟩,hi=>by
  obtain⟨a,o,t,u,n,e,q⟩:=Prs.at i r (by simpa using hi);exact⟨a,o,t,u,n,by simpa using e,q⟩
theorem Prs.tups {h:Ao}:∀{vs:List Ab}{ps:List (Int×Int)},Prs h vs ps->∃fs:List Ab,KatTups h vs fs/\fs.length=ps.length/\∀v∈fs,∃i t,v=.int i t
 |[],[],_=>⟨[],trivial,rfl,λ_ h=>by simp at h⟩
 |[],_::_,h=>h.elim
 |_::_,[],h=>h.elim
 |_::_,p::_,⟨⟨a,o,t,u,n,e,d,c,hd⟩,r⟩=>by
  obtain⟨fs,x,y,z⟩:=Prs.tups r;subst e;refine⟨.int p.1 t::fs,KatTups.cons d c hd (by simp) x,by simp[y],λv b=>?_⟩;rcases zZ9.mp b with rfl|b
  .exact⟨_,_,rfl⟩
  .exact z v b
def zd7 {a b:Ae}{f ob:Obj}{p q:Int×Int}{t u t' g:Tok}{n k:Nat}{Q:Bool->Ad->Prop}(ha:s.heap.get? a=some f)(da:f.data=.seq #[.int p.1 t,.int p.2 u] n)(hb:s.heap.get? b=some ob)(db:ob.data=.seq #[.int q.1 t',.int q.2 g] k)
  (h:Q (lx p q) s):Aj (Al prog w) A (keyLt' (tuples' true) (.ref a) (.ref b)) Q E s:=by
 refine kat_lt ha da hb db (kat_cons (wpAny_eqBool_int ?_));by_cases e:p.1=q.1
 .have e1:(p.1 == q.1)=true:=by simp[e]
  rw[e1];refine kat_yes (kat_cons (wpAny_eqBool_int ?_));by_cases d:p.2=q.2
  .have c:(p.2 == q.2)=true:=by simp[d]
   rw[c];refine kat_yes (kat_nil ?_);have:lx p q=false:=by simp[lx,e,d]
   rw[this]at h;simpa using h
  .have c:(p.2 == q.2)=false:=by simp[d]
   rw[c];refine kat_no (kat_one _ _ (wpAny_lt_int ?_));have:lx p q=decide (p.2<q.2):=by simp[lx,e]
   rw[this]at h;exact h
 .have e1:(p.1 == q.1)=false:=by simp[e]
  rw[e1];refine kat_no (oneLt_int ?_);have:lx p q=decide (p.1<q.1):=by simp[lx,e]
  rw[this]at h;exact h
def lG {vs:List Ab}{ps:List (Int×Int)}(h2:2<=vs.length)(P:Prs s.heap vs ps){R:Array Nat->Ad->Prop}(hr:∀c:List Nat,c.length=ps.length->(∀i∈c,i<ps.length)->(c.map (at2 ps)).Perm ps->(c.map (at2 ps)).Pairwise (λp q=>lx q p=false)->R c.toArray s):
  Aj (Al prog w) A (keyKind' vs.toArray) (λg s'=>(kas_sort vs.length).kasWp (kas_ask prog w A g vs) R s') (λ_ _=>False) s:=by
 obtain⟨fs,t,D,hi⟩:=P.tups;have hlen:=P.len;refine kat_kind (T:=.type "int") t (by lia) (λv x=>?_) (by decide) ?_
 .obtain⟨i,t,rfl⟩:=hi v x;exact .now
 .have e:(Value.type "int" != Value.type "tuple")=true:=by decide
  rw[e];obtain⟨c,e1,h,k,f,m⟩:=lP ps (zu2 h2 hlen);rw[hlen];refine wp_run (lt:=λi j=>lx (at2 ps i) (at2 ps j)) (λi j C hi y l=>?_) _ (fi (zu2 h2 hlen)) ?_
  .obtain⟨a,o,t,u,n,r,ha,_,da⟩:=P.at i hi;obtain⟨b,o',t',B,z,d,hb,_,db⟩:=P.at j y;unfold kas_ask;rw[r,d];exact zd7 ha da hb db l
  .rw[e1];exact hr c h k f m
def Srt (vs:List Ab)(ps:List (Int×Int))(out:List Ab):Prop:=
 ∃a:List Nat,out=a.map (λi=>vs.getD i Value.none)/\a.length=ps.length/\(∀i∈a,i<ps.length)/\(a.map (at2 ps)).Perm ps/\(a.map (at2 ps)).Pairwise (λp q=>lx q p=false)
def Srt.len {vs:List Ab}{ps:List (Int×Int)}{out:List Ab}(h:Srt vs ps out):out.length=ps.length:=by
 obtain⟨a,rfl,e,_⟩:=h;simp[e]
end
inductive PrV (H:Hp):List V->List (Int×Int)->Prop where
 |nil:PrV H [] []
 |cons {a:Ae}{xs:List V}{p:Int×Int}{ps:List (Int×Int)}:H a=some (.tup [.int p.1,.int p.2])->PrV H xs ps->PrV H (.ref a::xs) (p::ps)
section
variable {X:Cx}{pins:List (Ae×Obj)}{B:St}{H H':Hp}{s:Ad}
theorem PrV.len {xs:List V}{ps:List (Int×Int)}(h:PrV H xs ps):xs.length=ps.length:=by
 induction h with
 |nil=>rfl
 |cons _ _ a=>simp[a]
theorem PrV.keep {xs:List V}{ps:List (Int×Int)}(k:∀a p q,H a=some (.tup [.int p,.int q])->H' a=some (.tup [.int p,.int q]))(h:PrV H xs ps):PrV H' xs ps:=by
 induction h with
 |nil=>exact .nil
 |cons e _ b=>exact .cons (k _ _ _ e) b
theorem PrV.app {xs ys:List V}{ps qs:List (Int×Int)}(h:PrV H xs ps)(h':PrV H ys qs):PrV H (xs++ys) (ps++qs):=by
 induction h with
 |nil=>exact h'
 |cons e _ a=>exact .cons e a
theorem PrV.prs (I:Inv X pins B H s):∀{xs:List V}{ps:List (Int×Int)}{us:List Ab},PrV H xs ps->Vals xs us->Prs s.heap us ps:=by
 intro xs ps us h
 induction h generalizing us with
 |nil=>intro r;cases r;trivial
 |@cons a xs p ps e _ ih=>
  intro r;cases r with
  |cons r c=>
   cases(r);obtain⟨_,f,b,o,g,d,n,hd⟩:=(I.hok a _ e);obtain⟨u,v,rfl,⟨t,rfl⟩,⟨t',rfl⟩⟩:=Vals.two b;exact⟨⟨a,o,t,t',n,rfl,g,d,hd⟩,ih c⟩
theorem nc {xs:List V}{us:List Ab}(r:Vals xs us):∀i x,xs[i]?=some x->RelV x (us.getD i Value.none):=by
 induction r with
 |nil=>intro i x h;simp at h
 |cons e _ a=>
  intro i x h;cases i with
  |zero=>have h':=z34 (by simpa using h);subst h';exact e
  |succ i=>exact a i x (by simpa using h)
end
end L2
namespace Days
end Days
namespace L2
open PySem PySem.Spec PyProof.Rows Days
section
variable {X:Cx}{L:Ev}{e a b c tg:Ak}{pos p:Pos}{Q:Aa->Prop}{E:xf}{sts:List An}
end
def df (ds:List Aa):ds.filter (λ_=>true)=ds:=List.filter_eq_self.mpr λ_ _=>rfl
section
variable {X:Cx}{L:Ev}{tg:Ak}{pos p:Pos}{E:xf}{sts body:List An}
end
noncomputable def isNone :Aa->Bool
 |.none=>true
 |_=>false
abbrev eqS (d:Aa)(s:Str):Bool:=PyData.eqv d (.str s)
noncomputable abbrev sD :Aa->Bool:=yY 0 1000000000000
noncomputable def rZ :Aa->Bool
 |.tuple [.int m,f]=>yY 2 14 (.int m)&&yY 1 (m-1) f
 |_=>false
noncomputable def zX (w v:Aa):Bool:=
 if eqS w "price"=true then isNone v||sD v
 else if(eqS w "come"||eqS w "go")=true then isBool v
 else if(eqS w "least"||eqS w "most")=true then yY 1 14 v
 else if eqS w "deal"=true then isNone v||rZ v
 else eqS w "fee"&&sD v
noncomputable def xV :Aa->Bool
 |.tuple [w,a,b,v]=>vb (.tuple [a,b])&&zX w v
 |_=>false
noncomputable abbrev words :List Str:=["price","come","go","least","most","deal","fee"]
noncomputable def zU1 (x y z:V):List (Str×V):=we "worth" z (we "last" y (we "first" x []))
structure Cs where
 price:Ae
 come:Ae
 go:Ae
 least:Ae
 most:Ae
 deal:Ae
 fee:Ae
noncomputable def Cs.of (c:Cs)(w:Str):Ae:=
 if w="price" then c.price else if w="come" then c.come else if w="go" then c.go else if w="least" then c.least else if w="most" then c.most else if w="deal" then c.deal else c.fee
structure rJ (K:Ac)(C fI fT fE fW:Ae):Prop where
 cl:Cls K C
 nf:yG K C "first"
 nl:yG K C "last"
 nw:yG K C "worth"
 makes:Mk K C fI
 told:Meth K C "told" fT
 tells:Meth K C "tells" fE
 word:Meth K C "word" fW
theorem wt {d:Aa}{s:Str}(h:eqS d s=true):d=.str s:=by
 cases d with
 |str x=>
  rw[eq_of_beq h]
 |_=>simp[PyData.eqv]at h
def mQ {w v:Aa}(h:zX w v=true):∃s∈words,w=.str s:=by
 unfold zX at h;split at h
 .rename_i e;exact⟨"price",by simp[words],wt e⟩
 .split at h
  .rename_i e;rcases(yb4 _ _).mp e with e|e
   .exact⟨"come",by simp[words],wt e⟩
   .exact⟨"go",by simp[words],wt e⟩
  .split at h
   .rename_i e;rcases(yb4 _ _).mp e with e|e
    .exact⟨"least",by simp[words],wt e⟩
    .exact⟨"most",by simp[words],wt e⟩
   .split at h
    .rename_i e;exact⟨"deal",by simp[words],wt e⟩
    .rw[z36]at h;exact⟨"fee",by simp[words],wt h.1⟩
def tF {d:Aa}(h:xV d=true):∃(s:Str) (a b v:Aa),s∈words/\d=.tuple [.str s,a,b,v]:=by
 unfold xV at h;split at h
 .rename_i w a b v;rw[z36]at h;obtain⟨s,c,rfl⟩:=mQ h.2;exact⟨s,a,b,v,c,rfl⟩
 .cases h
section
variable {X:Cx}
end
abbrev vO (C:Ae)(fs:List (Aa×Aa)):Aa:=.dict ((.int (C:Nat),.none)::fs)
noncomputable def qz :List (Aa×Aa)->Str->Option Aa
 |[],_=>none
 |(.str g,d)::r,f=>if f=g then some d else qz r f
 |_::r,f=>qz r f
theorem AVf.get {H:Hp}:∀{fs:List (Str×V)}{ds:List (Aa×Aa)}{f:Str}{d:Aa},AVf H fs ds->qz ds f=some d->∃v,fs.lookup f=some v/\AV H v d
 |_,_,f,d,.nil,e=>by cases e
 |_,_,f,d,.cons (f:=g) h r,e=>by
  rw[z65];unfold qz at e;by_cases z:f=g
  .subst z;rw[if_pos rfl]at e;cases e;exact⟨_,by simp,h⟩
  .rw[if_neg z]at e;have a:(f == g)=false:=by simpa using z
   rw[a];exact AVf.get r e
theorem AVf.none {H:Hp}{fs:List (Str×V)}{ds:List (Aa×Aa)}{f:Str}(h:AVf H fs ds)(e:qz ds f=Option.none):fs.lookup f=Option.none:=by
 induction h using AVf.ind with
 |nil=>rfl
 |@cons g _ _ _ _ h r ih=>
  rw[z65];unfold qz at e;by_cases z:f=g
  .subst z;rw[if_pos rfl]at e;cases e
  .rw[if_neg z]at e;have a:(f == g)=false:=by simpa using z
   rw[a];exact ih e
theorem AV.ins_inv {H:Hp}{v:V}{C:Ae}{ds:List (Aa×Aa)}(h:AV H v (vO C ds)):∃a dx fs,v=.ref a/\H a=some (.ins C dx fs)/\AVf H fs ds:=by
 generalize e:vO C ds=d at h;cases h with
 |@ins a C' dx fs ds' h1 h2=>
  injection e with e;injection e with e1 b;have c:(C:Int)=C':=by
   have:=congrArg Prod.fst e1;injection this
  have f:=Int.ofNat.inj c;subst f b;exact⟨a,dx,fs,rfl,h1,h2⟩
 |_=>cases e
section
variable {X:Cx}{L:Ev}{o e:Ak}{es:List Ak}{pos apos p:Pos}{Q:Aa->Prop}{C:Ae}{f m:Str}
def pC (c:Cls X.K C)(na:yG X.K C f)(h:EvD X L o λx=>∃fs d,x=vO C fs/\qz fs f=some d/\Q d)(hb:attributeBase o f X.env (eval o X.env)=eval o X.env:=by rfl):EvD X L (.Attribute o f pos) Q:=λF B H R m k=>by
 refine⟨_,zC8 zf hb,h F B H _ m λx n H1 g t1 b l=>?_⟩;obtain⟨fs,d,rfl,hf,q⟩:=g;obtain⟨a,dx,i,rfl,h1,h2⟩:=l.ins_inv;obtain⟨v,j,av⟩:=h2.get hf;exact⟨a,C,dx,i,v,rfl,(zc h1).2,c,na,j,k d v H1 q t1 b av⟩
structure uv (P:Ag)(w:Ai)(K:Ac)(mg:Str->Option Ab)(base:Ao)(C:Ae)(m:Str)(k:Nat)(φ:List A->(A->Prop)->Prop):Prop where
 ex:∃f fd ps,Cls K C/\Meth K C m f/\Binds K fd ps []/\yE P w K mg base CX0 k f fd ps (spA φ)
def vp {k:Nat}{φ:List A->(A->Prop)->Prop}{pl:Sem Bool}(s:uv X.prog X.w X.K X.mg X.base C m k φ)(hr:zR k X.A)(h:EvD X L o λx=>∃fs,x=vO C fs/\qz fs m=none/\EvA X L (e::es) λas=>φ (.dat (vO C fs)::as) λa=>Q a.d)
  (b:Af (e::es) X.env=(false,eval e X.env)::Af es X.env:=by rfl) (hpl:(backTo pos (Af es X.env)).any (·.1)=false:=by rfl)
  (M:eval (.Call (.Attribute o m apos) (e::es) [] pos) X.env=(do
   let ov <-eval o X.env
   standAt apos.atName
   let(f,first) <-holding [ov] (getMethod ov m pl)
   callWith pos f first (backTo pos (Af (e::es) X.env)) (backToKw pos (keywordEach [] X.env))):=by rfl):EvD X L (.Call (.Attribute o m apos) (e::es) [] pos) Q:=λF B H R l t=>by
 obtain⟨f,fd,ps,c,hm,hb,G⟩:=s.ex;refine⟨_,zf9 zf c hm G hr hb .nil qN yD b hpl M,h F B H _ l λx O H1 n t1 i j=>?_⟩;obtain⟨fs,rfl,hf,q⟩:=n;have m1:=l.kz i t1;obtain⟨a,dx,u,rfl,h1,h2⟩:=j.ins_inv;refine⟨a,dx,u,rfl,(zc h1).2,h2.none hf,q F B H1 _ m1 λas vs P y D g J=>?_⟩;have m2:=m1.kz g D;have N:=wz (as:=.dat (vO C fs)::as) (E:=E0) m2 (.cons (j.same (g.gz m1.tp)) J) y λz v H' I r=>by
  obtain⟨g1,g2,g3⟩:=r.back m2;exact t _ v H' I g1 ((i.trans g).trans g2) g3
 exact N
def di {k:Nat}{φ:List A->(A->Prop)->Prop}{pl:Sem Bool}(n:uv X.prog X.w X.K X.mg X.base C m k φ)(hr:zR k X.A)(h:EvD X L o λx=>∃fs,x=vO C fs/\qz fs m=none/\φ [.dat (vO C fs)] λa=>Q a.d)
  (u:eval (.Call (.Attribute o m apos) [] [] pos) X.env=(do
   let ov <-eval o X.env
   standAt apos.atName
   let(f,first) <-holding [ov] (getMethod ov m pl)
   callWith pos f first (backTo pos (Af [] X.env)) (backToKw pos (keywordEach [] X.env))):=by rfl):EvD X L (.Call (.Attribute o m apos) [] [] pos) Q:=λF B H R i r=>by
 obtain⟨f,fd,ps,c,hm,hb,G⟩:=n.ex;refine⟨_,aK zf c hm G hr hb .nil qN u,h F B H _ i λx D H1 j t1 b g=>?_⟩;obtain⟨fs,rfl,hf,q⟩:=j;have m1:=i.kz b t1;obtain⟨a,dx,s,rfl,h1,h2⟩:=g.ins_inv;refine⟨a,dx,s,rfl,(zc h1).2,h2.none hf,?_⟩;have y:=wz (as:=[.dat (vO C fs)]) (E:=E0) m1 (.cons g .nil) q λz v H' t l=>by
  obtain⟨g1,g2,g3⟩:=l.back m1;exact r _ v H' t g1 (b.trans g2) g3
 exact y
def zo3 (F:Fr)(v:V)(H':Hp)(d:Aa):Prop:=zK F H'/\Kz F F.H0 H'/\AV (sub (λx=>¬F.O0 x/\∀xs,F.H0 x≠some (.lst xs)) H') v d
def EvN (X:Cx)(L:Ev)(e:Ak)(Q:Aa->Prop):Prop:=∀(F:Fr) (B:St) (H:Hp) (R:VK),M F L B H->(∀d v H',Q d->zK F H'->Kz F H H'->AV (sub (λx=>¬Ow F L B x/\∀xs,H x≠some (.lst xs)) H') v d->R v H')->uj X e B H R
theorem EvN.d (h:EvN X L e Q):EvD X L e Q:=λF B H R m k=>h F B H R m λd v H' q t z r=>k d v H' q t z (r.same (zq λa o h e=>⟨h.1,e⟩))
def spI (C:Ae)(φ:List A->(A->Prop)->Prop):Sp:=λvs H b _=>∃(F:Fr) (as:List A) (Q:A->Prop) (x dx:Ae) (a:List V) (H1:Hp),vs=.ref x::a/\H1 x=none/\H1 dx=none/\dx≠x/\H=upd (upd H1 dx (.own x)) x (.ins C dx [])/\
 F.H0=H1/\zK F H1/\(∀y,F.O0 y->∃u,H1 y=some u/\wJ u)/\yp F (sub (λy=>¬F.O0 y) H1) a as/\φ as Q/\∀d H',Q (.dat d)->zo3 F (.ref x) H' d->b .non H'
structure uN (P:Ag)(w:Ai)(K:Ac)(mg:Str->Option Ab)(base:Ao)(x:Str)(k:Nat)(dvs:List V)(φ:List A->(A->Prop)->Prop):Prop where
 ex:∃C f fd ps ds,mg x=some (.ref C)/\Mk K C f/\Binds K fd ps ds/\Vals dvs ds/\yE P w K mg base CX0 k f fd ps (spI C φ)
def jj {F:Fr}{B:St}{H:Hp}{vs:List V}{as:List A}{b:A->Prop}{R:VK}{φ:List A->(A->Prop)->Prop}(m:M F L B H)(k:yp F (Gz F L B H) vs as)(a:φ as b)
  (h:∀d v H',b (.dat d)->zo3 ⟨H,Ow F L B,F.tp⟩ v H' d->R v H') {E:XK} (x dx:Ae) (i:H x=none) (hdx:H dx=none) (hne:dx≠x):spI C φ (.ref x::vs) (upd (upd H dx (.own x)) x (.ins C dx [])) (λv j=>v=.non/\R (.ref x) j) E:=by
 refine⟨⟨H,Ow F L B,F.tp⟩,as,b,x,dx,vs,H,rfl,i,hdx,hne,rfl,rfl,?_,?_,?_,a,λd H' g c=>⟨rfl,h d _ H' g c⟩⟩
 .exact m.tp.to rfl λ_ z=>.inl z
 .exact λy z=>m.owEx z
 .exact yp.to (F:=F) (F':=⟨H,Ow F L B,F.tp⟩) (λ_ _ e=>e) rfl k
def zo3.back {F:Fr}{B:St}{H H1 H':Hp}{v:V}{d:Aa}(m:M F L B H)(b:Kz F H H1)(h:zo3 ⟨H1,Ow F L B,F.tp⟩ v H' d):zK F H'/\Kz F H1 H'/\AV (sub (λx=>¬Ow F L B x/\∀xs,H x≠some (.lst xs)) H') v d:=by
 obtain⟨t,kz,r⟩:=h;refine⟨m.tp.re t rfl,kz,r.same (zq λa o h e=>⟨⟨h.1,λxs z=>h.2 xs (b _ _ z (m.tp.nt (ow0 h.1)))⟩,e⟩)⟩
def zs1 {k:Nat}{φ:List A->(A->Prop)->Prop}{x:Str}(j:uN X.prog X.w X.K X.mg X.base x k [] φ)(hr:zR (k+1) X.A)(hg:Gl X x)(h:EvA X L (e::es) λas=>φ as λa=>Q a.d)
  (c:(x == ("__debug__":Str))=false:=by decide) (he:Af (e::es) X.env=(false,eval e X.env)::Af es X.env:=by rfl) (hpl:(backTo pos (Af es X.env)).any (·.1)=false:=by rfl):EvN X L (.Call (.Name x p) (e::es) [] pos) Q:=λF B H R m l=>by
 obtain⟨C,f,fd,ps,ds,hm,hk,hb,hd,G⟩:=j.ex;cases hd;refine⟨_,zl6 hk G hr hg hm hb .nil qN yD c he hpl,h F B H _ m λas vs H1 g t1 b n=>?_⟩;intro y dx hy hdx hne;rw[z73];refine jj (m.kz b t1) n g (λd v H' q i=>?_) y dx hy hdx hne;obtain⟨g1,g2,g3⟩:=i.back m b;exact l d v H' q g1 (b.trans g2) g3
end
structure zH0 (K:Ac)(x qual:Str)(st:An)(dV:Ab)(f:Ae)(fd:Ap):Prop where
 ex:∃(oc:Ab) (od:Option Ae) (kV doc pm:Ab) (an:Option Ae) (cdv ct:Ab) (osl:Array (Option Ab)),
  fd=PySem.W.fnOf x qual (zT st) (zt st) (zh st) dV kV doc pm an cdv ct/\K.lookup f=some ⟨oc,od,.func fd,osl⟩/\PySem.W.codeIn K cdv qual=true
 kp:PySem.W.keepIn K (.ref f)=true
def zg9 {K:Ac}{x qual:Str}{st:An}{f:Ae}{oc:Ab}{od an:Option Ae}{osl:Array (Option Ab)}{dV kV doc pm cdv ct:Ab}(l:K.lookup f=some ⟨oc,od,.func (PySem.W.fnOf x qual (zT st) (zt st) (zh st) dV kV doc pm an cdv ct),osl⟩)
  (c:PySem.W.codeIn K cdv qual=true) (k:PySem.W.keepIn K (.ref f)=true):zH0 K x qual st dV f (PySem.W.fnOf x qual (zT st) (zt st) (zh st) dV kV doc pm an cdv ct):=⟨⟨oc,od,kV,doc,pm,an,cdv,ct,osl,rfl,l,c⟩,k⟩
section
variable {P:Ag}{w:Ai}{K:Ac}{mg:Str->Option Ab}{base:Ao}
def zO2 {qual:Str}{st:An}{f C:Ae}{dV:Ab}{fd:Ap}{N:List Str}{x:Str}{k:Nat}{φ:List A->(A->Prop)->Prop}{fl:Str}{e:Ak}{p1 p2 p3:Pos}(G:zH0 K "__init__" qual st dV f fd)(S:ya ("self"::x::N) ["self",x] (zh st))(c:Cls K C)(na:yG K C fl)
  (hb:zt st=[.Assign [.Attribute (.Name "self" p1) fl p2] e p3]) (hlen:∀as Q,φ as Q->as.length=1)
  (J:∀(cdv:Ab) (O:Am) (outer:List Ar) (s:Ad) (H:Hp) (E:XK) (as:List A) (Q:A->Prop),zR k (O.deeper (envOfC qual (zh st) s.heap.objs.size f cdv))->φ as Q->
   EvL (vv CX0 P w K mg base ("self"::x::N) qual (zh st) f cdv O outer s H E).nox (none::as.map some++List.replicate N.length none) e λds=>wY ds=true/\Q (.dat (vO C [(.str fl,.list ds)])))
  (a1:∀(cdv:Ab) (O:Am) (outer:List Ar) (s:Ad) (H:Hp) (E:XK),swapsWith e (some (.Attribute (.Name "self" p1) fl p2)) p3.line (vv CX0 P w K mg base ("self"::x::N) qual (zh st) f cdv O outer s H E).nox.env=pure false)
  (hv:Vis (zh st) "self"):yE P w K mg base CX0 (k+1) f fd ["self",x] (spI C φ):=by
 obtain⟨oc,od,kV,doc,pm,an,cdv,ct,osl,rfl,lk,a3⟩:=G.ex;refine bE lk a3 S (λvs H Q E h=>?_) λO outer s H vs Qc E hr h=>?_
 .obtain⟨F,as,Q',y,dx,p,H1,rfl,_,_,_,_,_,_,_,X,B,_⟩:=h;rw[z28,X.length,hlen as _ B];rfl
 .obtain⟨F,as,Q',y,dx,p,H1,rfl,hy,hdx,hne,rfl,rfl,t,o,X,B,kk⟩:=h;rw[hb];refine⟨_,((wq (oE (xj (i:=0) rfl hv) zf (a1 cdv O outer s _ E))).nox),?_⟩
  let F2:Fr:=⟨F.H0,λz=>F.O0 z\/z=y\/z=dx,F.tp⟩
  have s1:zz F.H0 (upd (upd F.H0 dx (.own y)) y (.ins C dx [])):=λa u q=>by rw[zd (zj q hy),zd (zj q hdx)];exact q
  have L:¬F.O0 y:=λz=>by obtain⟨u,R,_⟩:=o y z;rw[hy]at R;cases R
  have t2:zK F2 (upd (upd F.H0 dx (.own y)) y (.ins C dx [])):=(t.same s1).to rfl λ_ z=>.inl z
  -- the names of the body
  have g:∀{i:Nat} {a:A},(none::as.map some++List.replicate N.length none:Ev)[i]?=some (some a)->∃j,i=j+1/\as[j]?=some a:=λ{i a} h=>by
   cases i with
   |zero=>simp at h
   |succ j=>
    refine⟨j,rfl,?_⟩;have h':(as.map some++List.replicate N.length none:Ev)[j]?=some (some a):=by simpa using h
    rcases yc2 j as.length with z|z
    .rw[z83 (by rw[zZ2];exact z),z04,z22]at h';obtain⟨b,h1,h2⟩:=h';cases h2;exact h1
    .rw[yb6 (by rw[zZ2];exact z),ya6]at h';split at h'<;>cases h'
  have at':∀{vs:List V} {as:List A} {i:Nat} {a:A},yp F (sub (λx=>¬F.O0 x) F.H0) vs as->as[i]?=some a->∃v,vs[i]?=some v/\eN F (sub (λx=>¬F.O0 x) F.H0) v a:=by
   intro vs as i a h
   induction h generalizing i with
   |nil=>intro e;simp at e
   |cons h r ih=>
    intro e;cases i with
    |zero=>simp at e;subst e;exact⟨_,rfl,h⟩
    |succ i=>obtain⟨v,h1,h2⟩:=ih (by simpa using e);exact⟨v,by simpa using h1,h2⟩
  have gv:∀{j:Nat} {v:V},p[j]?=some v->(L2.start ("self"::x::N) (.ref y::p))[j+1]?=some (some v):=λ{j v} h=>by
   unfold L2.start;rw[z83 (by rw[zZ2,z28];exact Nat.add_lt_add_right ((zZ6.mp h).1) _),z04,yg1,h];rfl
  have no:∀(i:Nat) a,(none::as.map some++List.replicate N.length none:Ev)[i]?=some (some a)->(∃d,a=.dat d)\/a=.tape:=λi a z=>by
   obtain⟨j,_,hj⟩:=g z;obtain⟨v,_,h⟩:=at' X hj;cases a with
   |dat d=>exact .inl ⟨d,rfl⟩
   |tape=>exact .inr rfl
   |_=>exact h.elim
  have gs:zz (sub (λx=>¬F.O0 x) F.H0) (Gz F2 (none::as.map some++List.replicate N.length none) (L2.start ("self"::x::N) (.ref y::p)) (upd (upd F.H0 dx (.own y)) y (.ins C dx []))):=λa u q=>by
   obtain⟨U,I⟩:=zc q;refine zy ?_ (s1 _ _ I);rintro((z|z|z)|⟨i,b,s,e,_,f⟩)
   .exact U z
   .rw[z,hy]at I;cases I
   .rw[z,hdx]at I;cases I
   .rcases no i b e with⟨d,rfl⟩|rfl
    .exact f.elim
    .exact f.elim
  have m2:M F2 (none::as.map some++List.replicate N.length none) (L2.start ("self"::x::N) (.ref y::p)) (upd (upd F.H0 dx (.own y)) y (.ins C dx [])):=by
   refine⟨by unfold L2.start;simp[X.length,(hlen as _ B)],λi a s e1 e2=>?_,λi j a b s t x e1 _ _ _ f=>?_,λi r q z=>(by rcases no i _ z with⟨d,w⟩|w<;>cases w),t2,λz u h _=>s1 z u h,λz hz=>?_⟩
   .obtain⟨j,rfl,hj⟩:=g e1;obtain⟨v,h1,h2⟩:=at' X hj;rw[gv h1]at e2;cases e2;rcases no _ a e1 with⟨d,rfl⟩|rfl
    .exact⟨v,rfl,AV.same gs h2⟩
    .obtain⟨t',b,c,h3,rfl⟩:=h2;exact⟨t',b,c,h3,rfl⟩
   .rcases no i a e1 with⟨d,rfl⟩|rfl
    .exact f.elim
    .exact f.elim
   .rcases hz with q|q|q
    .obtain⟨u,R,hn⟩:=o z q;exact⟨u,s1 _ _ R,hn⟩
    .exact⟨_,by rw[q];exact zg,λ_ q=>by cases q⟩
    .exact⟨_,by rw[q,zd hne];exact zg,λ_ q=>by cases q⟩
  refine J cdv O outer s _ E as Q' hr B F2 _ _ _ m2 λd v H2 qd t3 k3 r3=>?_;obtain⟨l,xs,rfl,m,a4,a5⟩:=r3;obtain⟨a2,qd⟩:=qd;have Y:l≠y:=λz=>by rw[z,zg]at m;cases m
  have T:l≠dx:=λz=>by rw[z,zd hne,zg]at m;cases m
  have D:F.H0 l=none:=by rw[zd Y,zd T]at m;exact m
  have Z:¬F.O0 l:=λz=>by obtain⟨u,R,_⟩:=o l z;rw[D]at R;cases R
  have a0:=k3 _ _ zg (t.nt L);refine⟨.ref y,rfl,y,C,dx,[],rfl,a0,c,na,by show 0<1000;decide,?_⟩;refine kk _ _ qd ⟨(t.re t3 rfl).updO L (fv a0),λz u h n=>?_,?_⟩
  .rw[zd (zj h hy)];exact k3 _ _ (s1 _ _ h) n
  .refine AV.ins (zy ⟨L,λxs z=>by rw[hy]at z;cases z⟩ zg) (.cons (.lst (zy ⟨Z,λxs z=>by rw[D]at z;cases z⟩ (by rw[zd Y];exact a4)) ?_) .nil);refine a5.noL (λa u hno z=>?_) a2;obtain⟨U,I⟩:=zc z;have na:a≠y:=λw=>U.1 (.inl (.inr (.inl w)));refine zy ⟨λw=>U.1 (.inl (.inl w)),λxs w=>?_⟩ (by rw[zd na];exact I);have:H2 a=some (.lst xs):=k3 _ _ (s1 _ _ w) (t.nt λw=>U.1 (.inl (.inl w)));rw[I]at this;cases this;exact hno trivial
end
section
variable {X:Cx}{L:Ev}{e e':Ak}{pos:Pos}{E:xf}{sts:List An}
end
def Itv (K:Ac)(a:Ae)(n:Nat):It:=
 ⟨λi H=>∃xs x,SqL K H a xs/\xs.length=n/\i<n/\xs[n-1-i]?=some x,λi H x H'=>H'=H/\∀xs,SqL K H a xs->xs[n-1-i]?=some x,λi H=>n<=i⟩
def zc1 {P:Ag}{w:Ai}{K:Ac}{tg:Ak}(a it:Ae)(n:Nat):Turn P w K tg (Itv K a n) [it] it (λi h=>i<=n/\h.IsRevIter it a ((n:Int)-1-(i:Int))) where
 mem:=by simp
 obj:=λi h st b hb=>by
  have e:b=it:=by simpa using hb
  subst e;obtain⟨_,o,e,c,d⟩:=st;exact⟨o,e,λv z=>by rw[d]at z;cases z⟩
 keep:=λi h h' st k=>⟨st.1,st.2.at λo e=>k it (by simp) o e⟩
 item:=by
  intro X q hw l r i pins s B H E I hf st hg;subst q hw l;obtain⟨xs,x,hq,M,hi,t⟩:=hg;obtain⟨C,L,p,N⟩:=I.list hq;obtain⟨u,G,J⟩:=L.get t;obtain⟨f0,f1,f2,j,f4,m⟩:=hf it (by simp);have e1:(n-1-i)=((n-1-i:Nat):Int):=by lia
  have f:=st.2;rw[e1]at f;refine wpAny_pyNext_rev_item f p.isList (by simpa using G) λh' g F=>?_;obtain⟨o,e,c,d⟩:=id g;have D:(((n-1-i:Nat):Int)-1)=n-1-((i+1:Nat):Int):=by lia
  rw[D]at g;exact⟨u,rfl,qU e c d (by decide) ⟨x,H,(I.turned (λb o hb e=>(F.2 b hb).trans e) f0 f1 j f4 m),J,⟨rfl,λys hy=>by rw[I.list_inj hy hq];exact t⟩,⟨hi,g⟩,λb hb=>(hf b hb).1⟩⟩
 done:=by
  intro X q hw l r i pins s B H E I hf st hg;subst q hw l;have hi:=ya2 st.1 hg;obtain⟨f0,f1,f2,j,f4,m⟩:=hf it (by simp);have f:=st.2;rw[show((n:Int)-1-i)=-1 by lia]at f;exact wpAny_pyNext_rev_end (I.ok.hd r) f λh' y=>⟨rfl,I.turned (λb o hb e=>y b o hb e) f0 f1 j f4 m⟩
 self:=λA i s Q E st h=>wpAny_pyIter_revIter st.2 h
section
variable {X:Cx}{L:Ev}{tg:Ak}{p pos:Pos}{a:Ak}
def zX8 (K:Ac)(b:TA):TI:=λB H R=>b B H λvs H1=>∃l xs,vs=[.ref l]/\SqL K H1 l xs/\R (Itv K l xs.length) H1
def zH8 {k:TA}(hg:Gl X "reversed")(hm:X.mg "reversed"=none)(ha:PA X [a] k)(n:Af [a] X.env=[(false,eval a X.env)]:=by rfl):PI X tg (.Call (.Name "reversed" p) [a] [] pos) (zX8 X.K k):=by
 intro pins s B H R I h;refine Call_ (yR I hg hm boot_reversed (z45 (thn (ha pos pins s B H _ I h) λus s1 i=>?_) n rfl));obtain⟨vs,H1,f,m,l⟩:=i;obtain⟨l1,xs,e,g,q⟩:=l;subst e;obtain⟨u,rfl,t⟩:=Vals.one m;cases(t);obtain⟨d,j,p1,r⟩:=f.list g;refine call_reversed_list p1.isList ?_;have c:({s1 with heap:=s1.heap.push (revObj l1 ((d.toArray.size:Int)-1))}:Ad).heap.IsRevIter s1.heap.objs.size l1 ((xs.length:Int)-1-(0:Int)):=by
  refine⟨_,z08 _ rfl,rfl,?_⟩;show Data.fields _=_;rw[z09,j.length];simp
 refine wpAny_pyIter_revIter c ⟨_,_,_,_,H1,rfl,f.kept λb o e=>zZ4 _ e,zc1 l1 _ xs.length,⟨z21 _,c⟩,λb hb=>?_,q⟩;have e:b=s1.heap.objs.size:=by simpa using hb
 subst e;exact f.fpOk (zZ8 _) (f.hok.fresh (zZ8 _))
def zI3 {Q:List Aa->Prop}(hg:Gl X "reversed")(hm:X.mg "reversed"=none)(h:EvD X L a λx=>∃ds,x=.list ds/\Q ds.reverse)(f:Af [a] X.env=[(false,eval a X.env)]:=by rfl):
  EvI X L tg (.Call (.Name "reversed" p) [a] [] pos) Q:=λF B H R m k=>by
 refine⟨_,zH8 hg hm (zr zf zD f) f,h F B H _ m λx n H1 j t1 g l=>?_⟩;obtain⟨ds,rfl,q⟩:=j;obtain⟨l1,xs,rfl,g1,g2⟩:=l.lst_inv;refine⟨l1,xs,rfl,SqL.of (zc g1).2,k _ _ H1 q t1 g λi r p s=>⟨λd hd=>?_,λe=>?_⟩⟩
 .have s1:=SqL.of (K:=X.K) (zc (s _ _ g1)).2;have hi:i<ds.length:=by
   have:=(zZ6.mp hd).1
   rwa [z63]at this
  rw[yh9 hi]at hd;obtain⟨x1,b,c⟩:=g2.get hd;rw[<-g2.length]at b;refine⟨⟨xs,x1,s1,rfl,by rw[g2.length];exact hi,b⟩,λv o y=>?_⟩;obtain⟨rfl,hy⟩:=y;have:=hy _ s1;rw[b]at this;cases this;exact⟨zz.refl _,λ_=>c.same s⟩
 .rw[z63,<-g2.length]at e;exact e
end
def EnS (w:Ai):List DictEntry->List (Str×V)->Prop:=Paired λe p=>e.hash=hashStr w p.1/\(∃t,e.key=.str p.1 t)/\RelV p.2 e.val
def iK (K:Ac)(w:Ai)(d:Ae)(b:List (Str×V)):Prop:=
 ∃a n,K.lookup d=some ⟨.type "dict",none,.dict a n,#[]⟩/\EnS w a.toList b/\(b.map (·.1)).Nodup
theorem gE {P:Ag}{w:Ai}{a:List DictEntry}{b:List (Str×V)}(h:EnS w a b):Pairs (PySem.strKind P w) a (List.zipWith (λe (p:Str×V)=>(p.1,e.val)) a b):=by
 induction h with
 |nil=>exact .nil
 |cons q _ d=>
  obtain⟨_,⟨t,c⟩,_⟩:=q;exact .cons (by rw[c];simp[PySem.strKind,Value.isStrOf]) rfl d
theorem zm4 {w:Ai}{b:List DictEntry}{a:List (Str×V)}(h:EnS w b a):(List.zipWith (λe (p:Str×V)=>(p.1,e.val)) b a).map (·.1)=a.map (·.1):=by
 induction h with
 |nil=>rfl
 |cons _ _ c=>simp only[List.zipWith_cons_cons,z27,c]
theorem bq {P:Ag}{w:Ai}{a:List DictEntry}{c:List (Str×V)}(h:EnS w a c):∀e∈a,∃k,(PySem.strKind P w).is k e.key=true/\e.hash=(PySem.strKind P w).hash k:=by
 induction h with
 |nil=>intro e he;simp at he
 |@cons _ p _ _ q _ ih=>
  obtain⟨h1,⟨t,b⟩,_⟩:=q;intro e he;rcases zZ9.mp he with rfl|he
  .exact⟨p.1,by rw[b];simp[PySem.strKind,Value.isStrOf],h1⟩
  .exact ih e he
theorem zg1 {w:Ai}{x:Str}{v:V}{b:List DictEntry}{a:List (Str×V)}(c:EnS w b a)(h:a.lookup x=some v):∃u,valueAt (List.zipWith (λe (p:Str×V)=>(p.1,e.val)) b a) x=some u/\RelV v u:=by
 induction c with
 |nil=>simp at h
 |@cons e p _ _ k _ ih=>
  obtain⟨y,z⟩:=p;by_cases q:x=y
  .subst q;simp only[List.lookup_cons_self,Option.some.injEq]at h;subst h;exact⟨e.val,by simp[valueAt],k.2.2⟩
  .rw[z65,ya7.mpr q]at h;obtain⟨u,h1,h2⟩:=ih h;refine⟨u,?_,h2⟩;rw[<-h1];simp[valueAt,z84,z42 q]
section
variable {X:Cx}{L:Ev}{p pos:Pos}{a:Ak}{g:Str}{Q:Aa->Prop}
def zI7 (i:Ak):Prop:=∀b c,subscripted i false b c=operate [b,c] (getItem b c)
def zY2 {prog:Ag}{w:Ai}{A:Am}{E:Ab->Ad->Prop}{s:Ad}{env:Ar}{value slice:Ak}{pos:Pos}{T id:String}{Q:Ab->Ad->Prop}
  (l:typeLookup (.type T) "__getitem__"=pure (some (.builtin id))) (m:zI7 slice)
  (h:Aj (Al prog w) A (eval value env) (λo e=>Aj (Al prog w) A (eval slice env) (λi b=>b.TypeIs o T/\Aj (Al prog w) A (getItem o i) Q E b) E e) E s):
  Aj (Al prog w) A (eval (.Subscript value slice pos) env) Q E s:=by
 refine Subscript_ (thn h λo e j=>thn j λi b c=>?_);obtain⟨k,c⟩:=c;unfold subscriptTail;refine zZ3 ?_;rw[getitemInPython_of_ne k.not_modules];refine zZ3 (yf0 k l ?_);have fin:Aj (Al prog w) A (subscripted slice false o i) (λr d=>Aj (Al prog w) A (letTemporaryGo value o r >>= λ_=>pure r) Q E d) E b:=by
  rw[m o i];exact wpAny_operating (thn c λr d f=>zZ3 (wpAny_letTemporaryGo (z02 f)))
 first
  |exact z02 (zZ3 fin)
  |exact zZ3 (z02 (zZ3 fin))
  |exact zZ3 fin
def ze7 {d:Ae}{b:List (Str×V)}{ty:TE}(hg:Gl X g)(hm:X.mg g=some (.ref d))(hd:iK X.K X.w d b)(hi:PE X a ty)(q:zI7 a)(hb:(g == ("__debug__":Str))=false:=by decide):
  PE X (.Subscript (.Name g p) a pos) (λB H Q=>ty B H λy H1=>∃x v,y=.str x/\b.lookup x=some v/\Q v H1):=by
 intro pins s B H Q I h;refine zY2 PySem.F.slot_dict_getitem.lookup q (si I hg hm (thn (hi pins s B H _ I h) λA s2 c=>?_) hb);obtain⟨y,z,k,r,x,v,l,ex,m⟩:=c;subst l;obtain⟨t,rfl⟩:=r;obtain⟨i,n,o,he,hn⟩:=hd;have j:s2.heap.DictOf (PySem.strKind X.prog X.w) d (List.zipWith (λe p=>(p.1,e.val)) i.toList b):=
  ⟨_,i,n,k.kIn _ _ o,⟨rfl,rfl,rfl⟩,rfl,λe f=>bq he e (by simpa using f),gE he,by rw[zm4 he];exact hn⟩
 obtain⟨u,h1,h2⟩:=zg1 he ex;exact⟨j.typeIs,wpAny_getItem_of (show(PySem.strKind X.prog X.w).is x (.str x t)=true by simp[PySem.strKind,Value.isStrOf]) j.mapOf h1 ⟨v,z,k.tok _,h2,m⟩⟩
noncomputable def scV :Aa->Option V
 |.none=>some .non
 |.bool b=>some (.bl b)
 |.int i=>some (.int i)
 |.str x=>some (.str x)
 |_=>Option.none
def zH2 {H:Hp}{d:Aa}{v:V}(h:scV d=some v):AV H v d:=by
 cases d<;>simp[scV]at h<;>subst h<;>constructor
def za6 {d:Ae}{b:List (Str×V)}(hg:Gl X g)(hm:X.mg g=some (.ref d))(hd:iK X.K X.w d b)(h:EvD X L a λy=>∃x d v,y=.str x/\b.lookup x=some v/\scV d=some v/\Q d)(f:zI7 a:=by exact λ_ _=>rfl)
  (hb:(g == ("__debug__":Str))=false:=by decide):EvD X L (.Subscript (.Name g p) a pos) Q:=λF B H R m k=>by
 refine⟨_,ze7 hg hm hd zf f hb,h F B H _ m λy j H1 e t1 c i=>?_⟩;obtain⟨x,d',v,rfl,h1,h2,q⟩:=e;cases i.str_inv;exact⟨x,v,rfl,h1,k _ _ H1 q t1 c (zH2 h2)⟩
end
section
variable {X:Cx}{L:Ev}{p pos:Pos}{a b:Ak}{g:Str}{Q:Aa->Prop}
def kO {lo hi:Option Ak}(h:EvD X L a λx=>EvO X L lo λl=>EvO X L hi λu=>∃ds,x=.tuple ds/\¬(HT.sIx ds.length 0 l=0/\HT.sIx ds.length ds.length u=ds.length)/\Q (.tuple (cutD ds l u))):EvD X L (.Subscript a (.Slice lo hi none p) pos) Q:=λF B H R m k=>by
 refine⟨_,uB zD4 zf tR tR,?_⟩;refine h F B H _ m λx w H1 j t1 i r=>?_;have m1:=m.kz i t1;refine j F B H1 _ m1 λl v n s f=>?_;have m2:=m1.kz f s;refine n F B v _ m2 λu y t t3 d=>?_;have m3:=m2.kz d t3;obtain⟨ds,rfl,hn,q⟩:=t;obtain⟨ad,xs,rfl,g1,g2⟩:=(r.same ((f.gz m1.tp).trans (d.gz m2.tp))).tup_inv;refine⟨ad,xs,rfl,SqT.of (zc g1).2,by rw[g2.length];exact hn,λp c=>?_⟩;refine k _ _ _ q (t3.same (zH c)) (((i.trans f).trans d).trans (Kz.of_same (zH c))) (.tup (xs:=qt xs l u) (zy (m3.fresh c) zg) ((g2.cut l u).same (zq λa o ha e=>⟨ha,by rw[zd (zj e c)];exact e⟩)))
def oI (h:EvD X L a λx=>EvD X L b λy=>∃ds c,x=.tuple ds/\y=.tuple c/\ds≠[]/\ds.length+c.length<=1000/\Q (.tuple (ds++c))):EvD X L (.BinOp a .Add b pos) Q:=λF B H R m k=>by
 refine⟨_,ym zr5 zf zf,?_⟩;refine h F B H _ m λx w H1 n t1 i s=>?_;have m1:=m.kz i t1;refine n F B H1 _ m1 λy A C r j f u=>?_;have m2:=m1.kz f j;obtain⟨ds,c,rfl,rfl,hn,t,q⟩:=r;obtain⟨a1,xs,rfl,g1,g2⟩:=(s.same (f.gz m1.tp)).tup_inv;obtain⟨v,ys,rfl,g3,l⟩:=u.tup_inv;refine⟨a1,v,xs,ys,rfl,rfl,SqT.of (zc g1).2,SqT.of (zc g3).2,(λz=>hn (by subst z;cases g2;rfl)),by rw[g2.length,l.length];exact z58 (yo t),(λz=>?_),λz p d=>?_⟩
 .subst z;cases l;rw[z73]at q;exact k _ _ _ q j (i.trans f) (.tup g1 g2)
 .exact k _ _ _ q (j.same (zH d)) ((i.trans f).trans (Kz.of_same (zH d))) (.tup (xs:=xs++ys) (zy (m2.fresh d) zg) ((g2.append l).same (zq λa o ha e=>⟨ha,by rw[zd (zj e d)];exact e⟩)))
def zf8 (h:EvD X L a λx=>EvD X L b λy=>∃i j,x=.str i/\y=.str j/\i.length+j.length<=sizeLine/\Q (.str (i++j))):EvD X L (.BinOp a .Add b pos) Q:=by
 refine uS (f:=tOp _) (ym kj zf zf) (λ_ _ _=>Iff.rfl) (h.imp λx h=>h.imp λy c=>?_);obtain⟨i,j,e1,e,d,hq⟩:=c;subst e1 e;intro F B H o q R m n l k;cases n.str_inv;cases l.str_inv;exact⟨i,j,rfl,rfl,d,k _ _ H hq m.tp Kz.refl (.str _)⟩
noncomputable def sT :Aa->Bool
 |.none=>true
 |.bool _=>true
 |.int _=>true
 |.str _=>true
 |_=>false
def jq {H:Hp}{v:V}{d:Aa}(h:AV H v d)(f:sT d=true):vD v=true/\scV d=some v:=by
 cases h<;>first|exact⟨rfl,rfl⟩|cases f
theorem zc3 {H:Hp}{xs:List V}{ds:List Aa}(h:AVs H xs ds)(f:ds.all sT=true):xs.all vD=true/\ds.map scV=xs.map some:=by
 induction h using AVs.ind with
 |nil=>exact⟨rfl,rfl⟩
 |cons h _ c=>
  rw[ye4,z36]at f;obtain⟨h1,h2⟩:=jq h f.1;obtain⟨h3,d⟩:=c f.2;exact⟨by rw[ye4,h1,h3];rfl,by rw[z27,z27,h2,d]⟩
noncomputable def inD (x:Aa)(ds:List Aa):Bool:=ds.any λy=>match scV y,scV x with
 |some u,some v=>eqV u v
 |_,_=>false
theorem jB {v:V}{x:Aa}(c:scV x=some v):∀{xs:List V}{ds:List Aa},ds.map scV=xs.map some->inV v xs=inD x ds
 |[],[],_=>rfl
 |[],_::_,e=>by cases e
 |_::_,[],e=>by cases e
 |u::xs,d::ds,e=>by
  rw[z27,z27]at e;injection e with e1 h;have f:=jB c h;unfold inV inD at f ⊢;rw[z97,z97,f,e1,c]
def dB {neg:Bool}{x:Aa}{ds:List Aa}(c:sT x=true)(fs:ds.all sT=true):Cmp (rIn X.K neg) x (.list ds) (if neg then !inD x ds else inD x ds):=λp H f i R e d h=>by
 obtain⟨ad,xs,rfl,g1,g2⟩:=d.lst_inv;obtain⟨f1,s1⟩:=jq e c;obtain⟨f2,s2⟩:=zc3 g2 fs;refine⟨ad,xs,rfl,.inl (SqL.of (zc g1).2),f1,f2,?_⟩;rw[jB s1 s2];exact h
end
section
variable {X:Cx}{L:Ev}{p pos:Pos}{a b:Ak}{Q:Aa->Prop}
end
theorem nr {β b:Type}{f g:β->Option b}:∀{l:List β},(∀x∈l,f x=g x)->l.filterMap f=l.filterMap g
 |[],_=>rfl
 |a::l,h=>by rw[ya8,ya8,h a z03,nr λx c=>h x (z01 _ c)]
def gQ (a:List Ab):slicePick a.toArray none none (some (-1))=a.reverse.toArray:=by
 have key:∀(n:Nat),n=a.length->(List.filterMap (λx=>a.toArray[x]?) ((List.range n).map λ(k:Nat)=>(((n:Int)-1)+(-1)*(k:Int)).toNat))=a.reverse:=by
  intro n hn;have e1:(List.filterMap (λx=>a.toArray[x]?) ((List.range n).map λ(k:Nat)=>(((n:Int)-1)+(-1)*(k:Int)).toNat))=List.filterMap (λx=>a.reverse.toArray[x]?) ((List.range n).map λx=>0+x):=by
   rw[yj9,yj9];refine nr λk hk=>?_;have hk:=yd0.mp hk;show a.toArray[(((n:Int)-1)+(-1)*(k:Int)).toNat]?=a.reverse.toArray[0+k]?;rw[yi9,yd5,yd5,yh9 (zZ7 hk (z26 hn))]
   congr 1
   lia
  rw[e1,pick_run,List.drop_zero,show n=a.reverse.length by rw[z63];exact hn];exact z80
 have h:=key a.length rfl;unfold slicePick sliceBounds sliceRange;simp only[Option.getD_some,z09,show ¬((-1:Int) > 0) by decide,z87];have b:(if((a.length:Int)-1) > -1 then(((a.length:Int)-1) - -1 - -1-1) / - -1 else 0)=(a.length:Int):=by
  split
  .rw[show(- -1:Int)=1 from rfl,Int.ediv_one];lia
  .lia
 rw[b,z67,h]
theorem Vals.rev {xs:List V}{us:List Ab}(h:Vals xs us):Vals xs.reverse us.reverse:=by
 induction h with
 |nil=>exact .nil
 |cons a _ b=>rw[ya5,ya5];exact b.append (.cons a .nil)
theorem AVs.rev {H:Hp}:∀{xs:List V}{ds:List Aa},AVs H xs ds->AVs H xs.reverse ds.reverse
 |[],[],_=>.nil
 |x::xs,d::ds,r=>by
  cases r with
  |cons a b=>
   rw[ya5,ya5];exact(AVs.rev b).append (.cons a .nil)
section
variable {X:Cx}{L:Ev}{a e:Ak}{pos p2 p3 p4:Pos}{n1:Nat}{te:TE}
def zl0 (he:PE X e te):PE X (.Subscript e (.Slice none none (some (.UnaryOp .USub (.Constant (.int 1) n1 p3) p4)) p2) pos) (λB H Q=>te B H λx H1=>∃a xs,x=.ref a/\SqL X.K H1 a xs/\∀p,H1 p=none->Q (.ref p) (upd H1 p (.lst xs.reverse))):=by
 intro pins s B H Q I h;refine Subscript_ (thn (he pins s B H _ I h) λv s1 d=>?_);obtain⟨x,H1,u,m,j⟩:=d;refine wpAny_Slice ?_;rw[evalPart_none];refine z02 ?_;refine z02 ?_;refine thn (sf (ai lZ zu) pins s1 B H1 (λo H'=>o=some (-1)/\H'=H1) u ⟨_,rfl,_,rfl,rfl,rfl⟩) λvs s2 c=>?_;obtain⟨o,w,t,po,e1,k⟩:=c;subst e1 k;obtain⟨a,xs,rfl,n,q⟩:=j;cases m;have f:Inv X pins B w {s2 with heap:=s2.heap.push {cls:=.type "slice",data:=.fields #[.none,.none,vs]}}:=t.kept (t':=s2.toks) λb ob q=>zZ4 _ q;obtain⟨l,r,g,i⟩:=f.list n;have hlen:=r.length;refine tail_any (T:="list") (ops:=[.ref a,.ref s2.heap.objs.size]) g.isList.typeIs slot_list_getitem.lookup ?_ (by with_unfolding_all rfl);refine wpAny_getItem_list_slice g.isList (Heap.IsSliceOf.new ..) .none .none po (by decide) ?_ (by rw[z09]<;>exact z05 (z26 hlen.symm) i);rw[gQ];refine⟨.ref _,_,f.laid (t':=s2.toks) (o:=.lst xs.reverse) (λb ob q=>zZ4 _ q) (zZ8 _) ?_,rfl,q _ (f.hok.fresh (zZ8 _))⟩;exact⟨by rw[z63];exact i,_,0,r.rev,z08 _ rfl⟩
def iM {Q:List Aa->Prop}(h:EvD X L a λx=>∃ds,x=.list ds/\Q ds.reverse):EvL X L (.Subscript a (.Slice none none (some (.UnaryOp .USub (.Constant (.int 1) n1 p3) p4)) p2) pos) Q:=λF B H R m k=>by
 refine⟨_,zl0 zf,?_⟩;refine h F B H _ m λx g H1 c t1 b f=>?_;have m1:=m.kz b t1;obtain⟨ds,rfl,q⟩:=c;obtain⟨a,xs,rfl,h1,h2⟩:=f.lst_inv;refine⟨a,xs,rfl,SqL.of (zc h1).2,λp d=>?_⟩;obtain⟨g1,g2,g3⟩:=m1.lay d h2.rev;exact k _ _ _ q g1 (b.trans g2) (yM.back m b t1 g3)
end
def cH (T:Ae)(H:Hp):Prop:=∀b:Ae,H b=none\/b=T\/∃o xs,H b=some (.frz o (.lst xs))
theorem gh {P:Ag}{w:Ai}{K:Ac}{mg mb:Str->Option Ab}{CX:CXT}{k:Nat}{S a T:Ae}{fd:Ap}{x:Str}{sp:Sp}{c:Ad}{vs:List Ab}{ns:List Int}{ps:Array Ab}
  (KX:K.In c.heap) (p:c.heap.Ns Ah mg) (hb:c.heap.Ns builtinsNs mb) (X:∀x:Str,x≠"__name__"->mb x=bootBuiltins x) (I:c.heap.NoLimit) (hg:c.gens=#[])
  (ha:c.heap.get? a=some {cls:=.type "list",data:=.seq vs.toArray}) (hi:IntsAre vs ns) (hl:ns.length<=sizeLine) (hr:zR k callerA)
  (A:c.heap.get? T=some (PySem.W.tabObj ps)) (R:K.lookup T=none) (O:isCodeTable c.heap T)
  (M:∃bm ob,mg "__builtins__"=some (.ref bm)/\bm≠builtinsNs/\c.heap.get? bm=some ob/\ob.cls=.type "module"/\ob.dict=some builtinsNs/\ob.data=.plain)
  (F:∀base:Ao,K.In base->base.Ns Ah mg->base.BuiltinsAt mg T->yE P w K mg base CX k S fd [x] sp) (y:∀(s:Ad) (u:Ab),BindsTo s fd ⟨[u],[]⟩ [(x,u)])
  (U:∀H:Hp,cH T H->H T=some (.tbl ps)->SqL K H a (ns.map V.int)->sp [.ref a] H (λv _=>v=.bl true) λ_ _ _=>False)
  (Z:∀H e s',CX [] H c (λ_ _ _=>False) e s'->False):
  codeAny (Al P w) callerA (.call (.ref S) ⟨[.ref a],[]⟩) (λr s'=>r=.ok (.ret (.bool true))/\OldK c.heap s'.heap/\s'.os=c.os/\AllBare s'.gens) c:=by
 have rv:=fg hi;have C:a≠T:=λz=>by rw[z,A]at ha;cases ha
 have core:∀H:Hp,cH T H->H T=some (.tbl ps)->SqL K H a (ns.map V.int)->HOk P w H c.heap->(∀b,H b≠none->b=a\/b=T)->(H a≠none->K.lookup a=none)->
   codeAny (Al P w) callerA (.call (.ref S) ⟨[.ref a],[]⟩) (λr s'=>r=.ok (.ret (.bool true))/\OldK c.heap s'.heap/\s'.os=c.os/\AllBare s'.gens) c:=by
  intro H hO G hS hok Y hK;have f:∀{b:Ae} {o:Obj},c.heap.get? b=some o->H b=none->(qq c.heap H).get? b=some o:=λe n=>ae e n;have L:∀{b:Ae} {o:Obj} {E:Array DictEntry} {D:Nat},c.heap.get? b=some o->o.data=.dict E D->H b=none:=λ{b o E D} e d=>by
   cases q:H b with
   |none=>rfl
   |some u=>
    rcases Y b (by rw[q];simp)with g|g
    .subst g;rw[ha]at e;cases e;have d':=d;cases d'
    .subst g;rw[A]at e;cases e;have d':=d;cases d'
  have j:∀{b:Ae} {m:Str->Option Ab},c.heap.Ns b m->(qq c.heap H).Ns b m:=λ{b m} Q=>by obtain⟨o,E,D,e,d,r⟩:=Q;exact⟨o,E,D,f e (L e d),d,r⟩
  have B:K.In (qq c.heap H):=λb o e=>f (KX b o e) (by
   cases q:H b with
   |none=>rfl
   |some u=>
    rcases Y b (by rw[q];simp)with g|g
    .subst g;rw[hK (by rw[q];simp)]at e;cases e
    .subst g;rw[R]at e;cases e)
  have hM:Mod K mg (qq c.heap H):=⟨B,j p,⟨mb,j hb,X⟩,let⟨mc,h1,h2⟩:=I;⟨mc,j h1,h2⟩⟩;have N:(qq c.heap H).BuiltinsAt mg T:=by
   obtain⟨bm,ob,b1,b2,t,b4,b5,J⟩:=M;have n1:bm≠T:=λz=>by rw[z,A]at t;cases t;cases b4
   have n2:bm≠a:=λz=>by rw[z,ha]at t;cases t;cases J
   have n3:bm≠Ah:=λz=>by
    obtain⟨o,E,D,e,d,_⟩:=p;rw[z,e]at t;cases t;rw[d]at J;cases J
   exact⟨bm,ob,b1,b2,n3,n1,f t (by
    cases q:H bm with
    |none=>rfl
    |some u=>
          rcases Y bm (by rw[q];simp)with g|g
          .exact absurd g n2
          .exact absurd g n1),b4,b5,J⟩
  have e0:uO P w K mg (qq c.heap H) callerA [] c H:=⟨rfl,hM,λb o e=>zj1 e,z26 (gK _ _),trivial,λb hb=>absurd (show b∈([]:List Ae)from hb) (by simp),hok,.of_eq hg⟩;refine yi4 ((F _ B (j p) N).run callerA [] c H ⟨[.ref a],[]⟩ [.ref a] [.ref a] _ _ hr e0 (y c (.ref a)) (.cons rfl .nil) (U H hO G hS)) λr s' h=>?_;cases r with
  |error e=>exact(Z H e s' h).elim
  |ok fl=>
   cases fl with
   |next=>exact False.elim h
   |brk=>exact False.elim h
   |cont=>exact False.elim h
   |ret u=>
    obtain⟨v,H',os,bare,un,l,r',q⟩:=h;have q':=q;subst q';obtain rfl:u=Value.bool true:=r';have old:∀b o,c.heap.get? b=some o->asItWas c.heap s'.heap b o:=λb o e=>by
     cases q:H b with
     |none=>exact .inl (un.keep b o e q (by intro z;exact absurd (show b∈([]:List Ae)from z) (by simp)) (by simp))
     |some u=>
      rcases hO b with z|z|⟨ob,xs,z⟩
      .rw[q]at z;cases z
      .subst z;obtain⟨more,hm⟩:=un.tbls _ _ G;rw[A]at e;cases e;exact .inr (.inl ⟨O,rfl,ps,more,rfl,(l _ _ hm)⟩)
      .have z2:=un.frzs b ob _ z;obtain⟨e1,_⟩:=hok b _ z;obtain⟨e2,_⟩:=l b _ z2;rw[e]at e1;cases e1;exact .inl e2
    refine⟨rfl,⟨old,λb o e=>?_⟩,os,bare⟩;rcases old b o e with z|⟨_,_,_,_,_,z⟩|⟨_,_,⟨o',_,_,z,_⟩,_⟩
    .exact⟨_,z⟩
    .exact⟨_,z⟩
    .exact⟨_,z⟩
 cases hk:K.lookup a with
 |some o=>
  have e:=KX a o hk;rw[ha]at e;cases e;refine core (λb=>if b=T then some (.tbl ps)else none) (λb=>?_) (if_pos rfl) (.inr ⟨_,vs.toArray,_,hk,rfl,rfl,rfl,by rw[z09,hi.length];exact hl,by simpa using rv⟩) (λb u z=>?_) (λb z=>?_) λz=>absurd (if_neg C) z
  .by_cases h:b=T
   .exact .inr (.inl h)
   .exact .inl (if_neg h)
  .by_cases h:b=T
   .have i:=(if_pos h).symm.trans z;cases i;subst h;exact A
   .have i:=(if_neg h).symm.trans z;cases i
  .by_cases h:b=T
   .exact .inr h
   .exact absurd (if_neg h) z
 |none=>
  refine core (λb=>if b=T then some (.tbl ps)else if b=a then some (.frz {cls:=.type "list",data:=.seq vs.toArray} (.lst (ns.map V.int)))else none) (λb=>?_) (if_pos rfl) (.inl (.inr ⟨{cls:=.type "list",data:=.seq vs.toArray},(if_neg C).trans (if_pos rfl)⟩)) (λb u z=>?_) (λb z=>?_) λ_=>hk
  .by_cases h:b=T
   .exact .inr (.inl h)
   .by_cases hb:b=a
    .exact .inr (.inr ⟨_,_,(if_neg h).trans (if_pos hb)⟩)
    .exact .inl ((if_neg h).trans (if_neg hb))
  .by_cases h:b=T
   .have i:=(if_pos h).symm.trans z;cases i;subst h;exact A
   .have z:=(if_neg h).symm.trans z;by_cases hb:b=a
    .have i:=(if_pos hb).symm.trans z;cases i;subst hb;exact⟨ha,by rw[zZ2];exact hl,vs,_,rv,ha⟩
    .have i:=(if_neg hb).symm.trans z;cases i
  .by_cases h:b=T
   .exact .inr h
   .by_cases hb:b=a
    .exact .inl hb
    .exact absurd ((if_neg h).trans (if_neg hb)) z
def zb6 {l:PySem.W.OpenLaw}{n k:Nat}{q:Ag}{loose:List Str}{N:(Str->Option Ab)->Ao->Prop}{C:Ai->Ao->Prop}{d:DefRec}{K:Params->Ac}{CX:Ai->CXT}{sp:Ai->Sp}{x:Str}{T c:Ae}{ps:Array Ab}
  (hn:l.most=some n) (r:n<=sizeLine) (hdf:d.params.defaults=[]) (hr:zR k callerA)
  (E:∀(w:Ai) (h:Ao),C w h->(K w.params).In h) (z:∀(w:Ai) (h:Ao),C w h->h.get? T=some (PySem.W.tabObj ps))
  (y:∀w:Ai,(K w.params).lookup T=none) (j:∀w:Ai,∃o vs,(K w.params).lookup c=some o/\o.cls=.type "code"/\o.data=.fields vs/\vs[11]?=some (.ref T))
  (F:∀(w:Ai) (mg:Str->Option Ab) (p:Ae) (h:Ao),(K w.params).In h->h.Ns Ah mg->mg d.name=some (.ref p)->
   ∃fd:Ap,(∀(s:Ad) (u:Ab),BindsTo s fd ⟨[u],[]⟩ [(x,u)])/\
    ∀base:Ao,(K w.params).In base->base.Ns Ah mg->base.BuiltinsAt mg T->yE l.prog w (K w.params) mg base (CX w) k p fd [x] (sp w))
  (t:∀(w:Ai) (H:Hp) (a:Ae) (ns:List Int),ns.length<=n->cH T H->H T=some (.tbl ps)->SqL (K w.params) H a (ns.map V.int)->sp w [.ref a] H (λv _=>v=.bl true) λ_ _ _=>False)
  (D:∀(w:Ai) (H:Hp) (s:Ad) (e:Ab) (s':Ad),CX w [] H s (λ_ _ _=>False) e s'->False):
  PySem.W.WalkO q loose N C l.row.toRowW d [] (λf vs=>PySem.call f vs):=by
 refine Att.attach_call hn hdf λw s₀ m mg mb p o pm cd doc a vs ns G Y R hd J A i hints hlen hg=>?_;have B:=E w _ Y;obtain⟨oc,cv,O,t3,I,L⟩:=j w;obtain⟨fd,hb,hF⟩:=F w mg p _ B G.T.g A;exact gh B G.T.g G.T.b G.T.builtins G.T.nolimit hg i hints (z05 hlen r) hr (z w _ Y) (y w) ⟨c,oc,cv,B _ _ O,t3,I,L⟩ G.T.bmain hF hb (λH M Q P=>t w H a ns hlen M Q P) λH e s'=>D w H m e s'
def TabAt.same {H H':Hp}(T:TabAt H)(h:∀a o,(∀xs,o≠.lst xs)->H a=some o->H' a=some o):TabAt H':=sS T h
section
variable {X:Cx}{pins:List (Ae×Obj)}{B:St}{H:Hp}{s:Ad}{h':Ao}
def Inv.tblMore {t':Nat}{p:Ae}{ps more:Array Ab}{H':Hp}(I:Inv X pins B H s)(h:H p=some (.tbl ps))(k:∀b u,b≠p->s.heap.get? b=some u->h'.get? b=some u)(e:h'.get? p=some (PySem.W.tabObj (ps++more)))
  (f:H' p=some (.tbl (ps++more))) (d:∀b,b≠p->b<s.heap.objs.size->H' b=H b) (new:∀b o,s.heap.objs.size<=b->H' b=some o->yi X.prog X.w H' h' b o):
  Inv X pins B H' {s with heap:=h',toks:=t'}:=by
 have ne:∀b,H b=none->b≠p:=λb n z=>by rw[z,h]at n;cases n
 have nt:∀b o,H b=some o->(∀qs,o≠.tbl qs)->b≠p:=λb o q n z=>by rw[z,h]at q;cases q;exact n _ rfl
 have lt:∀b o,H b=some o->b<s.heap.objs.size:=λb o q=>by
  rcases yc2 b s.heap.objs.size with z|z
  .exact z
  .rw[I.hok.fresh z]at q;cases q
 have st:∀b o,H b=some o->(∀qs,o≠.tbl qs)->H' b=some o:=λb o q n=>by rw[d b (nt b o q n) (lt b o q)];exact q
 refine I.un ⟨λb o q n _ _=>k b o (ne b n) q,λb o q n _ _=>⟨o.slots,k b o (ne b n) q⟩,λb o q n _=>by rw[d b (ne b n) (z07 q)];exact n,λb o q _=>?_,λb xs q=>st b _ q (λ_ z=>by cases z),λb o u q=>st b _ q (λ_ z=>by cases z),λb qs q=>?_⟩ λb u q=>?_
 .by_cases z:b=p
  .exact⟨_,by rw[z];exact e⟩
  .exact⟨o,k b o z q⟩
 .by_cases z:b=p
  .subst z;rw[h]at q;cases q;exact⟨more,f⟩
  .exact⟨#[],by rw[d b z (lt b _ q),q];simp⟩
 .by_cases z:b=p
  .subst z;rw[f]at q;cases q;exact e
  .rcases yc2 b s.heap.objs.size with l|l
   .rw[d b z l]at q;refine(I.hok b u q).stay (λc v a r=>k c v (λw=>?_) r) (λc r=>st c _ r λ_ z=>by cases z) λc xs r=>st c _ r λ_ z=>by cases z
    subst w;rcases a with rfl|a
    .exact z rfl
    .rw[h]at a;cases a
   .exact new b u l q
noncomputable def gY (f c:Ae)(qual:Str)(params:Arguments)(body:Ak)(scope:Aq)(a:List (Str×Ae)):HO:=
 .ext λh=>∃(pm ctv:Ab),h.get? f=some (PySem.W.kla_obj "<lambda>" qual params body scope a pm c ctv)
def zi8 {P:Ag}{w:Ai}{H:Hp}{h:Ao}{c:Ae}(r:h.CodeRec (.ref c) wB):yi P w H h c (tq c):=by
 refine⟨r,?_,λh1 h2 p k=>?_⟩
 .obtain⟨c',o,vs,t,e1,a,_⟩:=r;cases e1;exact⟨o,a⟩
 .obtain⟨c',o,vs,t,e1,a,b⟩:=p;cases e1;exact⟨c,o,vs,t,rfl,k _ a,b⟩
def aB {P:Ag}{w:Ai}{H:Hp}{h:Ao}{f c:Ae}{qual:Str}{params:Arguments}{body:Ak}{scope:Aq}{a:List (Str×Ae)}{pm ctv:Ab}(r:h.get? f=some (PySem.W.kla_obj "<lambda>" qual params body scope a pm c ctv)):yi P w H h f (gY f c qual params body scope a):=
 ⟨⟨pm,ctv,r⟩,⟨_,r⟩,λh1 h2 e k=>by obtain⟨d,b,p⟩:=e;exact⟨d,b,k _ p⟩⟩
theorem km {pos:Pos}{a b:Int}{c cv:Ab}(l:List Ab):TriplesOk l->codeAmong pos (l++[rawInt a,rawInt b,c])=some cv->codeAmong pos l=some cv\/cv=c:=by
 induction l using TriplesOk.induct with
 |case1=>
  intro _ h;rw[z51,rawInt,rawInt,codeAmong.eq_1]at h;split at h
  .cases h;exact .inr rfl
  .rw[codeAmong.eq_2 _ _ (by intro _ _ _ _ _ _ z;cases z)]at h;cases h
 |case2 i t j u d rest e=>
  intro ok h;rw[TriplesOk.eq_2]at ok;rw[yh4,yh4,yh4,codeAmong.eq_1]at h;rw[codeAmong.eq_1];split at h
  .rename_i z;rw[if_pos z];exact .inl h
  .rename_i z;rw[if_neg z];exact e ok h
 |case3 t h1 h2=>
  intro ok;rw[TriplesOk.eq_3 t h1 h2]at ok;exact ok.elim
theorem zb1 {params:Arguments}{body:Ak}{scope:Aq}{i:Pos}{g:List (Str×Ae)}{c:Ae}(I:Inv X pins B H s)(hcl:closureFor scope X.env=pure g)(hgl:X.env.globals=Ah)(hco:X.env.code=.ref c)(hhd:PySem.W.CodeHd X.base c yx)
  (hbi:X.base.BuiltinsAt X.mg yx) (hdf:defaultsOf params X.env=([],[])) (hq:X.env.qual++("<lambda>":Str)=wB) (hne:Ah≠yx) (T:TabAt H) {Q:Ab->Ad->Prop}
  (h:∀(f c':Ae) (H':Hp) (s':Ad),Inv X pins B H' s'->TabAt H'->(∀a o,a≠yx->H a=some o->H' a=some o)->(∀a ps,H a=some (.tbl ps)->∃qs,H' a=some (.tbl qs))->H f=none->H' f=some (gY f c' wB params body scope g)->H' c'=some (tq c')->Q (.ref f) s'):
  Aj (Al X.prog X.w) X.A (eval (.Lambda params body scope i) X.env) Q X.xe s:=by
 refine PySem.W.kla_eval hdf ?_;rw[hq];obtain⟨ps,t1,C,t3⟩:=T.ex;have D:=I.hok _ _ t1;have hb:∀b o,X.base.get? b=some o->s.heap.get? b=some o:=λb o e=>(I.bs b o e).1;have m:PySem.W.CodeHd s.heap c yx:=by
  obtain⟨o,vs,f1,f2,f3,f4,S,f6,Z,e1,j⟩:=hhd;exact⟨o,vs,f1,f2,f3,f4,S,f6,Z,hb _ _ e1,j⟩
 have p:s.heap.BuiltinsAt X.mg yx:=by
  obtain⟨bm,o,e1,j,E,P,Y,e6⟩:=hbi;exact⟨bm,o,e1,j,E,P,hb _ _ Y,e6⟩
 have x:s.heap.Ns Ah X.mg:=by
  obtain⟨o,es,ep,e,d,r⟩:=I.ok.mod.glob;exact⟨o,es,ep,hb _ _ e,d,r⟩
 cases hc:codeAmong i ps.toList with
 |none=>
  refine PySem.W.kla_makeFunction hcl hgl x hco m D C hc hne p λc' ctv h' M ex l1 l2 cr V=>?_;have q:=z07 D;have lf:=z58 (z29 l1 l2)
  let n:Hp:=upd (upd (upd H h'.objs.size (gY h'.objs.size c' wB params body scope g)) c' (tq c')) yx (.tbl (ps++#[rawInt ↑i.line,rawInt ↑i.col,Value.ref c']))
  have F:n yx=some (.tbl (ps++#[rawInt ↑i.line,rawInt ↑i.col,Value.ref c'])):=zg;have eC:n c'=some (tq c'):=by show upd _ _ _ _=_;rw[zd (yb1 (zZ7 q l1)),zg]
  have L:n h'.objs.size=some (gY h'.objs.size c' wB params body scope g):=by show upd _ _ _ _=_;rw[zd (yb1 (zZ7 q lf)),zd (z30 l2).symm,zg]
  have old:∀b,b≠yx->b<s.heap.objs.size->n b=H b:=λb nb v=>by
   show upd _ _ _ _=_;rw[zd nb,zd (z30 (zZ7 v l1)),zd (z30 (zZ7 v lf))]
  have I1:Inv X pins B n {s with heap:=h'.push (PySem.W.kla_obj "<lambda>" wB params body scope g ((X.mg "__name__").getD Value.none) c' ctv),toks:=M}:=by
   refine I.tblMore t1 (λb u nb e=>zZ4 _ (ex b u nb e)) (zZ4 _ V) F old λb o v e=>?_;by_cases J:b=h'.objs.size
   .subst J;rw[L]at e;cases e;exact aB (z08 _ rfl)
   .by_cases K:b=c'
    .subst K;rw[eC]at e;cases e;obtain⟨O,o,vs,t,e1,j,E⟩:=cr;cases e1;exact zi8 ⟨_,o,vs,t,rfl,zZ4 _ j,E⟩
    .have nb:b≠yx:=λz=>absurd v (Nat.not_le_of_lt (z▸q));have e':n b=H b:=by show upd _ _ _ _=_;rw[zd nb,zd K,zd J]
     rw[e',I.hok.fresh v]at e;cases e
  have stay:∀a o,a≠yx->H a=some o->n a=some o:=λa o no e=>by
   have R:a<s.heap.objs.size:=by
    rcases yc2 a s.heap.objs.size with z|z
    .exact z
    .rw[I.hok.fresh z]at e;cases e
   rw[old a no R];exact e
  refine h _ c' n _ I1 ⟨_,F,?_,λpos cv y=>?_⟩ stay (λa qs e=>?_) (I.hok.fresh lf) L eC
  .rw[Array.toList_append];exact TriplesOk_snoc _ _ _ _ C
  .rw[Array.toList_append]at y;rcases km _ C y with z|z
   .obtain⟨O,rfl,j⟩:=t3 _ _ z;exact⟨O,rfl,stay _ _ (λz=>by rw[z,t1]at j;cases j) j⟩
   .exact⟨c',z,eC⟩
  .by_cases N:a=yx
   .exact⟨_,by rw[N];exact F⟩
   .refine⟨qs,?_⟩;rw[old a N (by
     rcases yc2 a s.heap.objs.size with z|z
     .exact z
     .rw[I.hok.fresh z]at e;cases e)]
    exact e
 |some cv=>
  obtain⟨c',rfl,G⟩:=t3 _ _ hc;refine PySem.W.kla_makeFunctionHit hcl hgl x hco m D C hc p λctv h' M k l=>?_;have hf:=I.hok.fresh l;have U:∀b u,s.heap.get? b=some u->(h'.push (PySem.W.kla_obj "<lambda>" wB params body scope g ((X.mg "__name__").getD Value.none) c' ctv)).get? b=some u:=λb u e=>zZ4 _ (k b u e);have n1:∀a o,H a=some o->a≠h'.objs.size:=λa o e z=>by rw[z,hf]at e;cases e
  refine h _ c' _ _ (I.laid U l (aB (z08 _ rfl))) (T.same λa o _ e=>by rw[zd (n1 a o e)];exact e) (λa o _ e=>by rw[zd (n1 a o e)];exact e) (λa qs e=>⟨qs,by rw[zd (n1 a _ e)];exact e⟩) hf zg ?_;rw[zd (n1 _ _ G)];exact G
end
structure xU (x y:Str)(params:Arguments)(scope:Aq):Prop where
 kind:scope.kind=.function
 co:scope.isCoroutine=false
 gen:scope.isGenerator=false
 px:scope.names.lookup x=some .local
 py:scope.names.lookup y=some .free
 nocell:∀z∈scope.names,z.2≠NameKind.cell
 only:∀z∈scope.names,z.2=NameKind.free->z.1=y
 ne:x≠y
noncomputable def mz (P:Ag)(w:Ai)(K:Ac)(mg:Str->Option Ab)(base:Ao)(x y:Str)(scope:Aq)(f c cl:Ae)(A:Am)(outer:List Ar)(s:Ad)(H:Hp):Cx where
 prog:=P
 w:=w
 K:=K
 mg:=mg
 base:=base
 A:=A.deeper (PySem.W.envX wB scope s.heap.objs.size f (.ref c) [(y,cl)])
 N:=[x,y]
 s₀:=s
 H₀:=H
 env:=PySem.W.envX wB scope s.heap.objs.size f (.ref c) [(y,cl)]
 outer:=outer
 stack:=PySem.W.envX wB scope s.heap.objs.size f (.ref c) [(y,cl)]::outer
 ex:=[]
 calm:=true
 fn:=λ_=>false
 pn:=[]
 xe:=λ_ _=>False
def eJ {P:Ag}{w:Ai}{K:Ac}{mg:Str->Option Ab}{base:Ao}{x y:Str}{params:Arguments}{scope:Aq}{f c cl:Ae}{A:Am}{outer:List Ar}{s:Ad}{H:Hp}{h':Ao}{D:Nat}{v l:V}{u ul:Ab}
  (S:xU x y params scope) (hd:A.handled=none) (j:uO P w K mg base A outer s H) (C:RelV v u) (B:RelV l ul) (hcl:s.heap.IsCell cl (some ul)) (q:H cl=none)
  (ns:h'.Ns s.heap.objs.size λz=>[(x,u)].reverse.lookup z) (k:∀b o,s.heap.get? b=some o->h'.get? b=some o):
  Inv (mz P w K mg base x y scope f c cl A outer s H) [] [some v,some l] H {s with heap:=h',toks:=D}:=by
 have m:∀b:Ae,b∉(mz P w K mg base x y scope f c cl A outer s H).ex:=λb z=>absurd (show b∈([]:List Ae)from z) (by simp);have one:∀z d,(mz P w K mg base x y scope f c cl A outer s H).env.cells.lookup z=some d->z=y/\d=cl:=λz d h=>by
  have h:List.lookup z [(y,cl)]=some d:=h;rw[z65]at h;split at h
  .rename_i e;cases h;exact⟨eq_of_beq e,rfl⟩
  .cases h
 have hit:(mz P w K mg base x y scope f c cl A outer s H).env.cells.lookup y=some cl:=by
  show List.lookup y [(y,cl)]=some cl;simp[z65]
 have g:h'.IsCell cl (some ul):=by
  obtain⟨o,e1,r⟩:=hcl;exact⟨o,k _ _ e1,r⟩
 refine⟨⟨j.mod,S.kind,rfl,rfl,zZ8 _,λa b d h1 h2=>(one a d h1).1.trans (one b d h2).1.symm,λz n=>?_,λz d hf _=>?_,λ_=>hd,Around.frames_deeper j.frames,.inr ⟨rfl,rfl⟩,λb z=>absurd z (m b),j.bs,j.bsz,λb _ _=>m b,λb z=>absurd z (m b),j.funs,j.frf⟩,
  rfl,j.bare,Un.kept k,⟨_,ns,λi z E h1 h2 h3=>?_⟩,λz d h=>?_,j.hok.fresh (zZ8 _),λz d h=>?_,λp t=>absurd (show p∈([]:List (Ae×Obj))from t) (by simp),j.hok.kept k,rfl⟩
 .have n:=n;rcases n with n|n
  .exact absurd rfl (S.nocell _ (z70 n))
  .have:z=y:=S.only _ (z70 n) rfl;subst this;exact⟨cl,hit⟩
 .exact absurd (hf) z32
 .have h1:([x,y]:List Str)[i]?=some z:=h1
  match i,h1,h2 with
  |0,h1,h2=>
   cases h1;cases h2;exact⟨u,C,.inl ⟨S.px,by simp[z65]⟩⟩
  |1,h1,h2=>
   cases h1;cases h2;exact⟨ul,B,.inr ⟨.inr S.py,cl,hit,g⟩⟩
  |i+2,h1,h2=>simp at h1
 .obtain⟨rfl,rfl⟩:=one z d h;exact⟨_,g⟩
 .obtain⟨rfl,rfl⟩:=one z d h;exact q
def zr7 {P:Ag}{w:Ai}{K:Ac}{mg:Str->Option Ab}{base:Ao}{x y:Str}{params:Arguments}{body:Ak}{scope:Aq}{f c cl:Ae}{A:Am}{outer:List Ar}{s:Ad}{H:Hp}{v l:V}{u ul:Ab}{k:Nat}{Q:VK}{t:TE}
  (S:xU x y params scope) (hr:zR k A) (a:uO P w K mg base A outer s H) (hf:H f=some (gY f c wB params body scope [(y,cl)])) (i:H c=some (tq c)) (hcl:s.heap.IsCell cl (some ul)) (g:H cl=none) (B:RelV v u) (m:RelV l ul)
  (hb:∀pm ctv,bindArgs (PySem.W.kla_fn "<lambda>" wB params body scope [(y,cl)] pm (.ref c) ctv) ⟨[u],[]⟩=pure [(x,u)])
  (r:PE (mz P w K mg base x y scope f c cl A outer s H) body t) (hq:t [some v,some l] H Q):
  codeAny (Al P w) A (.call (.ref f) ⟨[u],[]⟩) (CR CX0 outer P w H s Q E0) s:=by
 obtain⟨⟨pm,ctv,D⟩,_,_⟩:=a.hok _ _ hf;refine PySem.W.kla_callFunE hr.depth D rfl S.co S.gen rfl ((a.hok _ _ i).1) ?_;rw[hb];refine z02 ?_;refine wpAny_newFunctionEnv S.nocell (λz C=>?_) (λh' ns n=>?_) S.kind
 .rw[z06.mp C];exact S.px
 .have h:∀b o,s.heap.get? b=some o->h'.get? b=some o:=λb o e=>n.extBut b o (z30 (z07 e)) (zZ4 _ e);refine⟨(a.mod.nolimit.keeps λb o e=>(a.bs b o e).1).keeps h,PySem.W.kla_codeExpr ?_⟩;refine z60 (r [] _ _ H _ (eJ S hr.hd a B m hcl g ns h) hq) (λE s' d=>?_) λe s' d=>d.elim;obtain⟨p,H',J,j,q⟩:=d;exact⟨p,H',J.os,J.bare,J.base,J.hok,j,q⟩
open PySem.W SortA
section
variable {X:Cx}{pins:List (Ae×Obj)}{B:St}{H:Hp}{s:Ad}
def aA (X:Cx)(H1 a:Hp)(s1 s2:Ad):Prop:=∀b o,s1.heap.get? b=some o->H1 b=none->b∉frs X.stack->s2.heap.get? b=some o/\a b=none
structure bP (X:Cx)(pins:List (Ae×Obj))(B:St)(H:Hp)(D kS:Ae)(e1:Nat)(ps:List (Int×Int))(i:Nat)(s':Ad):Prop where
 ex:∃(H':Hp) (ks:List Ab) (xs:List V) (e:Nat),Inv X pins B H' s'/\(∀a o,H a=some o->H' a=some o)/\s'.heap.get? D=some (seqObj "list" #[] e1)/\s'.heap.get? kS=some (seqObj "list" ks.toArray e)/\H' D=none/\H' kS=none/\Vals xs ks/\PrV H' xs (ps.take i)
def fk {A:Am}{E:Ab->Ad->Prop}{vs:List Ab}{ps:List (Int×Int)}{f D kS:Ae}{e1:Nat}{Q:PUnit->Ad->Prop}(hlen:vs.length=ps.length)(O:vs.length<64)(R:D∉frs X.stack)(P:kS∉frs X.stack)(hne:D≠kS)
  (M:∀H',H' kS=none->xg X pins H' kS)
  (c:∀i v,vs[i]?=some v->∀H1 s1,Inv X pins B H1 s1->(∀a o,H a=some o->H1 a=some o)->
   Aj (Al X.prog X.w) A (call (.ref f) [v]) (λu s2=>∃t d,u=.ref t/\Inv X pins B d s2/\(∀a o,H1 a=some o->d a=some o)/\d t=some (.tup [.int (at2 ps i).1,.int (at2 ps i).2])/\aA X H1 d s1 s2) (λ_ _=>False) s1)
  (h0:bP X pins B H D kS e1 ps 0 s) (Y:∀s',bP X pins B H D kS e1 ps vs.length s'->Q PUnit.unit s'):
  Aj (Al X.prog X.w) A (forIn vs PUnit.unit λx __s=>do
   let __do_lift <-(call (.ref f) [x]).attempt
   match __do_lift with
    |Except.ok k=>do
     Builtin.List.listUpdate (.ref kS) λx=>x.push k
     pure (ForInStep.yield PUnit.unit)
    |Except.error e=>do
     rule "list.sort.key-raised"
     let made <-Builtin.List.listItems (.ref kS)
     Builtin.List.listUpdate (.ref kS) λx=>#[]
     letGo made.toList.reverse [e]
     Builtin.List.listUpdate (Value.ref D) λx=>vs.toArray
     throw e
     pure (ForInStep.yield PUnit.unit)) Q E s:=by
 refine ksk_fold (bP X pins B H D kS e1 ps) vs 0 s h0 (λj x s' L F=>?_) (λs' F=>Y s' (by simpa using F));obtain⟨H1,ks,xs,e,I1,st,T,Z,N,r,K,pr⟩:=F.ex;rw[yi9]at pr ⊢;have l:j<ps.length:=by rw[<-hlen];exact(zZ6.mp L).1
 have m:ks.length=j:=by rw[<-K.length,pr.len,z49];lia
 refine zZ3 (wpAny_attempt (z60 (c j x L H1 s' I1 st) (λu s2 S=>?_) λ_ _ z=>z.elim));obtain⟨t,d,rfl,W,g,I,kp⟩:=S;obtain⟨C,y⟩:=kp D _ T N R;obtain⟨n,h⟩:=kp kS _ Z r P;refine zZ3 (listUpdate_at n rfl (z02 ⟨rfl,?_⟩) (by rw[z09,m,z71];lia) (by rw[Array.size_push,z09,m,z71];lia));obtain⟨G,hk⟩:∃G,(s2.heap.update kS (Obj.mapSeq λx=>x.push (Value.ref t))).get? kS=some (seqObj "list" (ks++[Value.ref t]).toArray G):=by
  have:=ya3 n λx=>x.push (Value.ref t);rw[List.push_toArray]at this;exact⟨_,this⟩
 have J:∀b o,b∉[kS]->s2.heap.get? b=some o->(s2.heap.update kS (Obj.mapSeq λx=>x.push (Value.ref t))).get? b=some o:=λb o nb q=>(z35 _ _ (z42 (by simpa using nb))).trans q;refine⟨d,ks++[Value.ref t],xs++[V.ref t],G,W.turnL J (λb hb=>by rw[z06.mp hb];exact M d h),λa o q=>g a o (st a o q),J D _ (by simpa using hne) C,hk,y,h,K.append (.cons rfl .nil),?_⟩;rw[z75,zZ5 l];refine PrV.app (pr.keep λa p q z=>g _ _ z) ?_;have U:at2 ps j=ps[j]:=by unfold at2;rw[z00,zZ5 l];rfl
 rw[U]at I;exact .cons I .nil
def kG {A:Am}{E:Ab->Ad->Prop}{vs:List Ab}{ps:List (Int×Int)}{f D:Ae}{n:Nat}{W:PySem.Fin->Ad->Prop}(I:Inv X pins B H s)(T:s.heap.get? D=some (seqObj "list" vs.toArray n))(hlen:vs.length=ps.length)(l:vs.length<64)(fD:H D=none)
  (nD:D∉frs X.stack) (L:∀H',H' D=none->xg X pins H' D)
  (G:∀i v,vs[i]?=some v->∀H1 s1,Inv X pins B H1 s1->(∀a o,H a=some o->H1 a=some o)->
   Aj (Al X.prog X.w) A (call (.ref f) [v]) (λu s2=>∃t U,u=.ref t/\Inv X pins B U s2/\(∀a o,H1 a=some o->U a=some o)/\U t=some (.tup [.int (at2 ps i).1,.int (at2 ps i).2])/\aA X H1 U s1 s2) (λ_ _=>False) s1)
  (h:∀out H' s' c,Srt vs ps out->Inv X pins B H' s'->(∀a o,H a=some o->H' a=some o)->s'.heap.get? D=some (seqObj "list" out.toArray c)->H' D=none->W (.done (.ret .none)) s'):
  Aj (Al X.prog X.w) A (ksk_tree D (.ref f) false) W E s:=by
 have s1:=ye7 s.heap D (Obj.mapSeq λ_=>(#[]:Array Ab));obtain⟨e1,F⟩:∃e1,(s.heap.update D (Obj.mapSeq λ_=>(#[]:Array Ab))).get? D=some (seqObj "list" #[] e1):=⟨_,ya3 T λ_=>#[]⟩;have y:(s.heap.update D (Obj.mapSeq λ_=>(#[]:Array Ab))).objs.size=s.heap.objs.size:=Heap.size_update _ _ _;unfold ksk_tree;refine zZ3 (listItems_at T rfl ?_);refine zZ3 (listUpdate_at T rfl ?_ (by rw[z09,z71];exact ka l) (z21 _));generalize a6:s.heap.update D (Obj.mapSeq λ_=>(#[]:Array Ab))=h1 at s1 F y;refine zZ3 (seqEpoch_at F rfl ?_);refine zZ3 (wpAny_newTuple ?_ (by show vs.length<=_;rw[z71];exact ka l));refine zZ3 (wpAny_newList (z72 ?_) (z21 _));have O:(h1.push (seqObj "tuple" vs.toArray 0)).objs.size=s.heap.objs.size+1:=by rw[size_push',y]
 have C:((h1.push (seqObj "tuple" vs.toArray 0)).push (seqObj "list" #[] 0)).get? (h1.push (seqObj "tuple" vs.toArray 0)).objs.size=some (seqObj "list" #[] 0):=z08 _ rfl;have N:((h1.push (seqObj "tuple" vs.toArray 0)).push (seqObj "list" #[] 0)).get? D=some (seqObj "list" #[] e1):=zZ4 _ (zZ4 _ F);have k1:∀b o,b∉[D]->s.heap.get? b=some o->((h1.push (seqObj "tuple" vs.toArray 0)).push (seqObj "list" #[] 0)).get? b=some o:=λb o hb e=>
  zZ4 _ (zZ4 _ ((s1.2 b (by simpa using hb)).trans e))
 have I0:Inv X pins B H {s with heap:=(h1.push (seqObj "tuple" vs.toArray 0)).push (seqObj "list" #[] 0),toks:=s.toks}:=I.turnL k1 λb hb=>by rw[z06.mp hb];exact L H fD
 generalize (h1.push (seqObj "tuple" vs.toArray 0)).push (seqObj "list" #[] 0)=h2 at C N k1 I0;generalize a5:(h1.push (seqObj "tuple" vs.toArray 0)).objs.size=kS at O C;have M:s.heap.objs.size<=kS:=by rw[O];exact ya1 _
 have fK:∀H',H' kS=none->xg X pins H' kS:=λH' hn=>I.fpOk M hn;have nK:(kS:Ae)∉frs X.stack:=λz=>by
  rcases zZ9.mp (I.stkSub _ z)with q|q
  .exact(I.fpOk (H':=λ_=>none) M rfl).2.1 q
  .exact(I.fpOk (H':=λ_=>none) M rfl).2.2.1 q
 have hne:=z30 (zZ7 (z07 T) M);unfold ksk_rest;refine zZ3 (wpAny_rule ?_);rw[yk0];refine zZ3 (fk (s:={s with heap:=h2}) hlen l nD nK hne fK G ⟨H,[],[],0,I0,λ_ _ q=>q,N,C,fD,(I.hok.fresh M),.nil,.nil⟩ λs' hI=>?_);obtain⟨H1,ks,xs,e,I1,st,eD,eK,K,Y,rv,pr⟩:=hI.ex;rw[hlen,z80]at pr;have k:ks.length=vs.length:=by rw[<-rv.length,pr.len,hlen]
 refine zZ3 (listItems_at eK rfl ?_);unfold ksk_end;dsimp only;rw[if_neg (by decide)];have tail:∀(g:SortSt) (out:List Ab),out.length<=64->Srt vs ps out->failedOf g=none->(arrOf g).map (·.2)=out.toArray->Aj (Al X.prog X.w) A (ksk_tail D false e1 (.ref kS) g) W E s':=by
  intro g out lo J hf P;unfold ksk_tail;dsimp only;rw[P,hf];refine zZ3 (listUpdate_at eK rfl ?_ (by rw[z09,k,z71];exact ka l) (z21 _));have s3:=ye7 s'.heap kS (Obj.mapSeq λ_=>(#[]:Array Ab));have r:=(s3.2 D hne).trans eD;have I3:Inv X pins B H1 {s' with heap:=s'.heap.update kS (Obj.mapSeq λ_=>(#[]:Array Ab)),toks:=s'.toks}:=I1.turnL (ch:=[kS]) (λb o hb q=>(s3.2 b (by simpa using hb)).trans q) λb hb=>by rw[z06.mp hb];exact fK H1 Y
  generalize s'.heap.update kS (Obj.mapSeq λ_=>(#[]:Array Ab))=h3 at r I3;refine zZ3 (yb0 (zZ3 (seqEpoch_at r rfl ?_)));rw[if_neg (by decide)];refine zZ3 (listUpdate_at r rfl ?_ (z21 _) (by rw[z09,z71];lia));obtain⟨V,a0⟩:∃V,(h3.update D (Obj.mapSeq λ_=>out.toArray)).get? D=some (seqObj "list" out.toArray V):=⟨_,ya3 r λ_=>out.toArray⟩;simp only[bne_self_eq_false,z52,z87];have I4:=I3.turnL (ch:=[D]) (t':=s'.toks) (λb o hb q=>((ye7 h3 D (Obj.mapSeq λ_=>out.toArray)).2 b (by simpa using hb)).trans q) λb hb=>by rw[z06.mp hb];exact L H1 K
  exact z02 (h out H1 _ V J I4 st a0 K)
 by_cases j:vs.toArray.size<2
 .rw[if_pos j,if_pos j];have S:vs.length<2:=by simpa using j
  refine zZ3 (z02 (zZ3 (z02 ?_)));dsimp only;have J:Srt vs ps vs:=by
   match vs,ps,S,hlen with
   |[],[],_,_=>exact⟨[],rfl,rfl,λ_ h=>by simp at h,.refl _,.nil⟩
   |[v],[p],_,_=>exact⟨[0],rfl,rfl,λi h=>by simp at h;subst h;simp,.refl _,by simp⟩
   |_::_::_,_,S,_=>simp only[z28]at S;exact(zS9 S).elim
  refine tail _ vs (by lia) J rfl ?_;rw[if_neg (by decide)];apply Array.toList_inj.mp;rw[Array.toList_map,Array.toList_zip];exact List.map_snd_zip (z26 k.symm)
 .rw[if_neg j,if_neg j,if_neg (by decide)];have h2:2<=vs.length:=by simp at j;exact j
  have ask:=lG (prog:=X.prog) (w:=X.w) (A:=A) (by rw[k];exact h2) (pr.prs I1 rv)
   (R:=λp m=>Srt vs ps (p.toList.map λi=>vs.getD i Value.none)/\m=s') (λix a b c d=>⟨⟨ix,by simp,a,b,c,d⟩,rfl⟩)
  refine zZ3 (z60 ask (λκ s0 hk=>?_) λ_ _ x=>x.elim);rw[k]at hk;refine zZ3 (z60 (kat_run (Q:=λg m=>∃p:Array Nat,p.size=vs.length/\arrOf g=p.map (kas_item (ks.toArray.zip vs.toArray))/\failedOf g=none/\Srt vs ps (p.toList.map λi=>vs.getD i Value.none)/\m=s')
   k h2 l (λp' g m a1 a2 a3 a4=>⟨p',a1,a2,a3,a4⟩) hk) ?_ λ_ _ e=>e)
  rintro⟨⟨⟩,g⟩ m ⟨p,hp,Z,hf,J,rfl⟩;dsimp only;exact tail g _ (by rw[J.len,<-hlen];exact z58 l) J hf (kat_snds k Z)
end
section
variable {X:Cx}{pins:List (Ae×Obj)}{B:St}{H:Hp}{s:Ad}
def Inv.adopt {D:Ae}{o:HO}(I:Inv X pins B H s)(fp:xg X pins H D)(new:yi X.prog X.w (upd H D o) s.heap D o):Inv X pins B (upd H D o) s:=by
 have st:∀b u,H b=some u->upd H D o b=some u:=λb u e=>by rw[zd (zj e fp.1)];exact e
 have:=I.step (t':=s.toks) (d':=s.drawn) (λb hb=>by rw[z06.mp hb];exact⟨fp.2.2.2.1,fp.2.1,fp.2.2.2.2.1,fp.2.2.2.2.2⟩) (λb u _ _ _ e _=>e) (λb u _ _ _ e _=>⟨u.slots,e⟩) (λb u hb e n=>by rw[zd (by simpa using hb)];exact n)
  (λb u _ e=>⟨u,e⟩) (λb xs e=>st b _ e) (λb u xs e=>st b _ e) (λb ps e=>⟨#[],by rw[st b _ e];simp⟩) (λm hm=>hm) (λb u e=>?_) I.bare
 .exact this
 .by_cases hb:b=D
  .subst hb;rw[zg]at e;cases e;exact new
  .rw[zd hb]at e;exact(I.hok b u e).stay (λc v _ q=>q) (λc q=>st c _ q) λc xs q=>st c _ q
def oJ {A:Am}{E:Ab->Ad->Prop}{l f:Ae}{vs:List Ab}{ps:List (Int×Int)}{Q:Ab->Ad->Prop}(I:Inv X pins B H s)(C:s.heap.IsList l vs.toArray)(hlen:vs.length=ps.length)(g:vs.length<64)
  (k:∀i v,vs[i]?=some v->∀H1 s1,Inv X pins B H1 s1->(∀a o,H a=some o->H1 a=some o)->
   Aj (Al X.prog X.w) A.in1.in1 (call (.ref f) [v]) (λu s2=>∃t p,u=.ref t/\Inv X pins B p s2/\(∀a o,H1 a=some o->p a=some o)/\p t=some (.tup [.int (at2 ps i).1,.int (at2 ps i).2])/\aA X H1 p s1 s2) (λ_ _=>False) s1)
  (h:∀D out H' s' c,s.heap.objs.size<=D->Srt vs ps out->Inv X pins B H' s'->(∀a o,H a=some o->H' a=some o)->s'.heap.get? D=some (seqObj "list" out.toArray c)->H' D=none->xg X pins H' D->Q (.ref D) s'):
  Aj (Al X.prog X.w) A (call (.builtin "sorted") [.ref l] [("key",.ref f)]) Q E s:=by
 refine call_function_entry_kw kind_sorted plain_sorted entry_sorted (ksk_s1 _ _) ?_;unfold Builtin.«sorted»;refine zZ3 (z02 ?_);refine zZ3 (collect_list C ?_ (by rw[z71];exact ka g));refine zZ3 (wpAny_newList ?_ (by rw[z71];exact ka g));have d:((s.heap.push (seqObj "list" #[] 0)).update s.heap.objs.size (Obj.mapSeq (·++vs.toArray))).objs.size=s.heap.objs.size+1:=by rw[Heap.size_update,size_push']
 have n:(((s.heap.push (seqObj "list" #[] 0)).update s.heap.objs.size (Obj.mapSeq (·++vs.toArray))).push (seqObj "list" vs.toArray 0)).get? (s.heap.objs.size+1)=some (seqObj "list" vs.toArray 0):=by rw[<-d];exact z08 _ rfl
 have keep:∀b o,s.heap.get? b=some o->(((s.heap.push (seqObj "list" #[] 0)).update s.heap.objs.size (Obj.mapSeq (·++vs.toArray))).push (seqObj "list" vs.toArray 0)).get? b=some o:=λb o q=>by
  have j:=z07 q;rw[Heap.get?_push_ne _ _ _ (by rw[d];exact z30 (yg4 j)),Heap.get?_update_ne _ _ _ _ (z30 j),Heap.get?_push_ne _ _ _ (z30 j)];exact q
 rw[d];have F:Inv X pins B H {s with heap:=((s.heap.push (seqObj "list" #[] 0)).update s.heap.objs.size (Obj.mapSeq (·++vs.toArray))).push (seqObj "list" vs.toArray 0),toks:=s.toks}:=I.kept keep;have m:s.heap.objs.size<=s.heap.objs.size+1:=ya1 _;refine zZ3 (z72 (wpAny_call_entry_kw slot_list_sort ⟨_,n,rfl⟩ entry_list_sort ?body (ksk_l1 _ _)))
 case body=>
  rw[ksk_t1];refine kG F n hlen g (I.hok.fresh m) (λz=>?_) (λH' hn=>I.fpOk m hn) k λout H' s' c y x st e r=>?_
  .rcases zZ9.mp (I.stkSub _ z)with q|q
   .exact(I.fpOk (H':=λ_=>none) m rfl).2.1 q
   .exact(I.fpOk (H':=λ_=>none) m rfl).2.2.1 q
  .exact⟨_,rfl,z02 ⟨_,rfl,h _ out H' s' c m y x st e r (I.fpOk m r)⟩⟩
end
section
variable {X:Cx}{a:Ak}{p pos kpos lpos p1 p2 p3 p4 p5 p6:Pos}{n1:Nat}{x y:Str}{params:Arguments}{scope:Aq}
noncomputable abbrev pairE (x y:Str)(n1:Nat)(p1 p2 p3 p4 p5 p6:Pos):Ak:=.Tuple [.Subscript (.Name y p1) (.Name x p2) p3,.UnaryOp .USub (.Name x p4) p5] n1 p6
noncomputable def keyOf (zs:List Int)(n:Int):Int×Int:=(zs.getD n.toNat 0,-n)
def zr9 {P:Ag}{w:Ai}{K:Ac}{mg:Str->Option Ab}{base:Ao}{f c cl l:Ae}{A:Am}{outer:List Ar}{s:Ad}{H:Hp}{u ul:Ab}{k:Nat}{n:Int}{zs:List Int}
  (S:xU x y params scope) (hr:zR k A) (e:uO P w K mg base A outer s H) (hf:H f=some (gY f c wB params (pairE x y n1 p1 p2 p3 p4 p5 p6) scope [(y,cl)])) (g:H c=some (tq c)) (hcl:s.heap.IsCell cl (some ul)) (b:H cl=none) (q:RelV (.int n) u) (m:RelV (.ref l) ul)
  (hb:∀pm ctv,bindArgs (PySem.W.kla_fn "<lambda>" wB params (pairE x y n1 p1 p2 p3 p4 p5 p6) scope [(y,cl)] pm (.ref c) ctv) ⟨[u],[]⟩=pure [(x,u)])
  (hdx:(x == ("__debug__":Str))=false) (hdy:(y == ("__debug__":Str))=false) (hcx:(x == ("__classdict__":Str))=false) (hcy:(y == ("__classdict__":Str))=false)
  (h:SqL K H l (zs.map V.int)) (h0:0<=n) (h1:n<zs.length):
  codeAny (Al P w) A (.call (.ref f) ⟨[u],[]⟩) (CR CX0 outer P w H s (λv H'=>∃t,v=.ref t/\H t=none/\H'=upd H t (.tup [.int (keyOf zs n).1,.int (keyOf zs n).2])) E0) s:=by
 obtain⟨j,rfl⟩:=z66 h0;have d:=(om9 h1);refine zr7 S hr e hf g hcl b q m hb (kD (zr (yB zU (xj (i:=1) rfl (Or.inr (Or.inr S.py)) hdy hcy) (xj (i:=0) rfl (Or.inl S.px) hdx hcx) (λ_ _=>rfl)) (zr (ai lZ (xj (i:=0) rfl (Or.inl S.px) hdx hcx)) zD))) ?_;refine⟨_,rfl,_,rfl,l,_,_,.int (zs.getD j 0),rfl,rfl,h,yn ?_,_,rfl,_,rfl,(by show 2<=sizeLine;decide),λt o=>⟨t,rfl,o,?_⟩⟩
 .rw[z04,zZ5 d,z00,zZ5 d];rfl
 .simp[keyOf]
def tN (ns zs ms:List Int):Prop:=ms.Perm ns/\ms.Pairwise λm k=>lx (keyOf zs k) (keyOf zs m)=false
def au {ns zs:List Int}{vs out:List Ab}(r:Vals (ns.map V.int) vs)(h:Srt vs (ns.map (keyOf zs)) out):∃ms,tN ns zs ms/\Vals (ms.map V.int) out:=by
 obtain⟨b,rfl,e,hb,c,hw⟩:=h;have at_:∀i∈b,at2 (ns.map (keyOf zs)) i=keyOf zs (ns.getD i 0):=λi hi=>by
  have:=hb i hi;rw[zZ2]at this;unfold at2;rw[z00,z04,zZ5 this,z00,zZ5 this];rfl
 have em:b.map (at2 (ns.map (keyOf zs)))=(b.map λi=>ns.getD i 0).map (keyOf zs):=by
  rw[z53];exact List.map_congr_left at_
 rw[em]at c hw;have inv:∀l:List Int,(l.map (keyOf zs)).map (λq=>-q.2)=l:=λl=>by
  rw[z53];have:((λq:Int×Int=>-q.2)∘keyOf zs)=id:=by funext n;simp[keyOf]
  rw[this,List.map_id]
 refine⟨b.map λi=>ns.getD i 0,⟨?_,List.pairwise_map.mp hw⟩,?_⟩
 .have:=c.map (λq=>-q.2)
  rwa [inv,inv]at this
 .clear em c hw e
  induction b with
  |nil=>exact .nil
  |cons i b d=>
   refine .cons ?_ (d (λk hk=>hb k (z01 _ hk)) λk hk=>at_ k (z01 _ hk));have hi:=hb i z03;rw[zZ2]at hi;refine nc r i _ ?_;show _=some (V.int (ns.getD i 0));rw[z04,zZ5 hi,z00,zZ5 hi];rfl
def wo {K:Ac}{H H':Hp}{a:Ae}{xs:List V}(h:SqL K H a xs)(k:∀a o,(∀ps,o≠.tbl ps)->H a=some o->H' a=some o):SqL K H' a xs:=by
 rcases h with(h|⟨o,h⟩)|h
 .exact .inl (.inl (k _ _ (λ_ z=>by cases z) h))
 .exact .inl (.inr ⟨o,k _ _ (λ_ z=>by cases z) h⟩)
 .exact .inr h
theorem kl {ta:TE}{j k:Nat}{c:Ae}(S:xU x y params scope)(hr:zR (k+2) X.A)(hg:Gl X "sorted")(hm:X.mg "sorted"=none)(hN:X.N[j]?=some y)(hy:X.env.scope.names.lookup y=some .cell)
  (hcl:∀cl,X.env.cells.lookup y=some cl->closureFor scope X.env=pure [(y,cl)]) (hgl:X.env.globals=Ah) (hco:X.env.code=.ref c) (hhd:PySem.W.CodeHd X.base c yx) (hbi:X.base.BuiltinsAt X.mg yx) (hdf:defaultsOf params X.env=([],[])) (hq:X.env.qual++("<lambda>":Str)=wB) (hne:Ah≠yx)
  (hb:∀u cl c' pm ctv,bindArgs (PySem.W.kla_fn "<lambda>" wB params (pairE x y n1 p1 p2 p3 p4 p5 p6) scope [(y,cl)] pm (.ref c') ctv) ⟨[u],[]⟩=pure [(x,u)])
  (hdx:(x == ("__debug__":Str))=false) (hdy:(y == ("__debug__":Str))=false) (hcx:(x == ("__classdict__":Str))=false) (hcy:(y == ("__classdict__":Str))=false) (ha:PE X a ta)
  (he:Af [a] X.env=(false,eval a X.env)::Af [] X.env:=by rfl) (a1:backTo pos (Af [a] X.env)=(false,eval a X.env)::backTo pos (Af [] X.env):=by rfl) (hpl:((backTo pos (Af [a] X.env)).any λx=>x.1)=false:=by rfl):
  PE X (.Call (.Name "sorted" p) [a] [⟨some "key",.Lambda params (pairE x y n1 p1 p2 p3 p4 p5 p6) scope lpos,kpos⟩] pos)
   (λB H Q=>ta B H λv H1=>∃l ns M zs,v=.ref l/\SqL X.K H1 l (ns.map V.int)/\B[j]?=some (some (.ref M))/\SqL X.K H1 M (zs.map V.int)/\ns.length<64/\(∀n∈ns,0<=n/\n<zs.length)/\TabAt H1/\
    ∀D H' ms,H1 D=none->H' D=some (.lst (ms.map V.int))->tN ns zs ms->TabAt H'->(∀a o,a≠yx->H1 a=some o->H' a=some o)->Q (.ref D) H'):=by
 intro pins s B H Q I h;refine yc5 (yR I hg hm boot_sorted ?_)
 let Pd:V->Hp->Prop:=λv H1=>∃l ns M zs,v=.ref l/\SqL X.K H1 l (ns.map V.int)/\B[j]?=some (some (.ref M))/\SqL X.K H1 M (zs.map V.int)/\ns.length<64/\(∀n∈ns,0<=n/\n<zs.length)/\TabAt H1/\
    ∀D H' ms,H1 D=none->H' D=some (.lst (ms.map V.int))->tN ns zs ms->TabAt H'->(∀a o,a≠yx->H1 a=some o->H' a=some o)->Q (.ref D) H'
 refine callWith_kw (thn (zr ha zD he pos pins s B H (λvs H1=>match vs with|[v]=>Pd v H1|_=>False) I h) λus s1 a9=>?_) a1 hpl;obtain⟨vs,H1,I1,r1,q1⟩:=a9
 match vs,r1,q1 with
 |[v],r1,q1=>
  obtain⟨u,rfl,ru⟩:=vals1 r1;obtain⟨l,ns,M,zs,rfl,hS,P,hZ,U,a8,T,q⟩:=(q1);obtain⟨m,hn,hl⟩:=id I1.loc;obtain⟨ul,rl,lk⟩:=hl j y _ hN P (.inr (.inl hy));obtain⟨cl,G,a6⟩:∃cl,X.env.cells.lookup y=some cl/\s1.heap.IsCell cl (some ul):=by
   rcases lk with⟨z,_⟩|⟨_,cl,z1,z2⟩
   .have z:X.env.scope.names.lookup y=some .local:=z;rw[hy]at z;cases z
   .exact⟨cl,z1,z2⟩
  show Aj _ _ (evalAll ((do let v <-eval (.Lambda params (pairE x y n1 p1 p2 p3 p4 p5 p6) scope lpos) X.env;standAt pos;pure v)::[])) _ _ s1;refine wpAny_evalAll_cons (zZ3 (zb1 I1 (hcl cl G) hgl hco hhd hbi hdf hq hne T λf c' H2 s2 I2 T2 R b1 hf Z L=>zZ3 (wpAny_standAt (z02 (wpAny_evalAll_nil ?_)))));cases ru;have w:∀a o,(∀ps,o≠.tbl ps)->H1 a=some o->H2 a=some o:=λa o no e=>R a o (λz=>by
   obtain⟨ps,t1,_⟩:=T.ex;rw[z,t1]at e;cases e;exact no _ rfl) e
  have Z2:=wo hZ w;obtain⟨a5,r,ht,hz⟩:=I2.list (wo hS w);have E:a5.length=ns.length:=by rw[<-r.length,zZ2]
  refine oJ (ps:=ns.map (keyOf zs)) I2 ht.isList (by rw[zZ2];exact E) (z29 (z26 E) U) (λi v hv H3 s3 I3 w=>?_) λD out H' s' c0 lD so I' st e fD fp=>?_
  .have hi:i<ns.length:=by rw[<-E];exact(zZ6.mp hv).1
   have rv:RelV (.int ns[i]) v:=by
    have:=nc r i (.int ns[i]) (by rw[z04,zZ5 hi];rfl)
    rwa [z00,hv]at this
   obtain⟨m3,b3,a4⟩:=id I3.loc;obtain⟨b0,a3,a2⟩:=a4 j y _ hN P (.inr (.inl hy));have J:s3.heap.IsCell cl (some b0):=by
    rcases a2 with⟨z,_⟩|⟨_,b5,z1,z2⟩
    .have z:X.env.scope.names.lookup y=some .local:=z;rw[hy]at z;cases z
    .rw[G]at z1;cases z1;exact z2
   have O:=a8 ns[i] (z69 hi);have ek:at2 (ns.map (keyOf zs)) i=keyOf zs ns[i]:=by
    unfold at2;rw[z00,z04,zZ5 hi];rfl
   rw[ek];have Z3:=wo Z2 λa o _ e=>w a o e;refine wpAny_call (yi4 (zr9 S hr.in1.in1 I3.env0.in1.in1 (w _ _ Z) (w _ _ L) J (I3.freeC y cl G) rv a3 (λpm ctv=>hb _ _ _ pm ctv) hdx hdy hcx hcy Z3 O.1 O.2) λrr s4 C=>?_);cases rr with
   |error e=>exact False.elim C
   |ok fl=>
    cases fl with
    |next=>exact False.elim C
    |brk=>exact False.elim C
    |cont=>exact False.elim C
    |ret u4=>
     obtain⟨v4,H4,os,bare,un,hok,r4,t,rfl,a7,a0⟩:=C;cases r4;obtain⟨hh,g,d,tk,b2⟩:=s4;obtain rfl:b2=s3.os:=os;refine⟨t,H4,rfl,I3.call un hok bare (λb z=>absurd z (by simp)),λa o e=>?_,by rw[a0];exact zg,λb o e n nf=>⟨un.keep b o e n nf (by simp),un.free b o e n (by simp)⟩⟩;rw[a0,zd (zj e a7)];exact e
  .obtain⟨ms,sm,rm⟩:=au r so;have nD:∀a o,H' a=some o->a≠D:=λa o e z=>by rw[z,fD]at e;cases e
   have F:=I2.hok.fresh lD;have Y:∀a o,H2 a=some o->upd H' D (.lst (ms.map V.int)) a=some o:=λa o e=>by rw[zd (nD a o (st a o e))];exact st a o e
   refine⟨.ref D,upd H' D (.lst (ms.map V.int)),I'.adopt fp ⟨?_,out,c0,rm,e⟩,rfl,q D _ ms ?_ zg sm (T2.same λa o _ e=>Y a o e) λa o no e=>Y a o (R a o no e)⟩
   .rw[zZ2,sm.1.length_eq,z71];exact ka U
   .cases z:H1 D with
    |none=>rfl
    |some o=>
     by_cases nt:∀ps,o≠.tbl ps
     .rw[w D o nt z]at F;cases F
     .simp only[Classical.not_forall,Classical.not_not]at nt;obtain⟨qs,rfl⟩:=nt;obtain⟨b4,w'⟩:=b1 D qs z;rw[w']at F;cases F
end
section
variable {X:Cx}{L:Ev}{p q pos:Pos}{a b:Ak}
theorem sQ {G:Hp}:∀ns:List Int,AVs G (ns.map V.int) (ns.map .int)
 |[]=>.nil
 |n::ns=>.cons (.int n) (sQ ns)
theorem zc2 {Q:List Aa->Prop}(G:X.calm=true)(hg:Gl X "list")(hm:X.mg "list"=none)(f:Gl X "range")(g:X.mg "range"=none)(h:EvD X L a λx=>EvD X L b λy=>∃i j,x=.int i/\y=.int j/\(-(2 ^ 62)<=i/\i<2 ^ 62/\-(2 ^ 62)<=j/\j<2 ^ 62)/\(j-i).toNat<=1000/\Q ((zo i (j-i).toNat).map .int))
  (he:Af [.Call (.Name "range" q) [a,b] [] p] X.env=(false,eval (.Call (.Name "range" q) [a,b] [] p) X.env)::Af [] X.env:=by rfl) (d:Af [a,b] X.env=(false,eval a X.env)::Af [b] X.env:=by rfl) (n:Af [b] X.env=(false,eval b X.env)::Af [] X.env:=by rfl)
  (hpl:(backTo p (Af [b] X.env)).any (·.1)=false:=by rfl) {E:Pos}:EvL X L (.Call (.Name "list" E) [.Call (.Name "range" q) [a,b] [] p] [] pos) Q:=λF B H R m k=>by
 refine⟨_,yw (qr G) hg hm boot_list (zr (yw nh f g boot_range (zr zf (zr zf zD n) d) (he:=d) (hpl:=hpl)) zD he),h F B H _ m λx S H1 D t1 u J=>?_⟩;have m1:=m.kz u t1;refine D F B H1 _ m1 λy T t I w A M=>?_;obtain⟨i,j,rfl,rfl,⟨N,C,O,K⟩,P,q⟩:=I;cases J.int_inv;cases M.int_inv;refine⟨i,j,rfl,λr hr=>⟨r,i,j,rfl,zg,⟨N,C,O,K⟩,z58 (yo P),by lia,λl e=>?_⟩⟩;have s:l≠r:=λz=>by rw[z,zg]at e;cases e
 have c:t l=none:=by rw[zd s]at e;exact e
 have v:=u.trans A;have s1:zz t (upd (upd t r (.rng i j)) l (.lst ((zo i (j-i).toNat).map V.int))):=(zH hr).trans (zH e);refine k _ _ _ q (w.same s1) (v.trans (Kz.of_same s1)) ⟨l,_,rfl,?_,zg,sQ _⟩;cases z:H l with
 |none=>rfl
 |some o=>rw[v l o z (m.tp.nt (ow0 ((m1.kz A w).fresh c)))]at c;cases c
end
section
variable {X:Cx}{L:Ev}{p pos:Pos}{a b:Ak}{Q:Aa->Prop}
noncomputable def upS (x:Str):Str:=⟨placed x λ_ c=>Unicode.upperOf c⟩
def ze2 :MtM X "str.upper" (λx xs H Q=>∃i,x=.str i/\xs=[]/\Builtin.Str.tooLong (upS i).cps.size=false/\(upS i).length<=sizeLine/\Q (.str (upS i)) H):=by
 intro pins s B H x xs v us Q I f d h;obtain⟨i,rfl,rfl,e,c,q⟩:=h;obtain⟨t,rfl⟩:=f;cases d;refine call_gives PySem.F.slot_str_upper (kf (x:=.str i) I ⟨t,rfl⟩ rfl).1 PySem.F.entry_str_upper (PySem.F.args_str_upper_1 _) (gives_str_upper i t e) ?_;exact⟨c,.str (upS i),H,I.tok _,⟨_,rfl⟩,q⟩
def cO {apos:Pos}(h:EvD X L a λx=>∃i,x=.str i/\Builtin.Str.tooLong (upS i).cps.size=false/\(upS i).length<=sizeLine/\Q (.str (upS i)))(c:attributeBase a "upper" X.env (eval a X.env)=eval a X.env:=by rfl)(d:(apos.endLine == pos.line)=true:=by rfl):EvD X L (.Call (.Attribute a "upper" apos) [] [] pos) Q:=λF B H R m k=>by
 refine⟨_,zD9 PySem.F.plainAttrs_str PySem.F.slot_str_upper PySem.F.type_str_upper ze2 zf c d,?_⟩;refine h F B H _ m λx n H1 g t1 f l=>?_;obtain⟨i,rfl,j,e,q⟩:=g;cases l.str_inv;exact⟨rfl,i,rfl,rfl,j,e,k _ _ H1 q t1 f (.str _)⟩
end
theorem AVs.ints {H:Hp}{xs:List V}{ns:List Int}(h:AVs H xs (ns.map .int)):xs=ns.map V.int:=by
 induction ns generalizing xs with
 |nil=>cases h;rfl
 |cons n ns b=>cases h with
  |cons h a=>rw[z27,b a,h.int_inv]
section
variable {X:Cx}{L:Ev}{a:Ak}{p pos kpos lpos p1 p2 p3 p4 p5 p6:Pos}{n1:Nat}{x y:Str}{params:Arguments}{scope:Aq}
structure aq (X:Cx)(c:Ae)(x y:Str)(n1:Nat)(p1 p2 p3 p4 p5 p6:Pos)(params:Arguments)(scope:Aq):Prop where
 S:xU x y params scope
 hy:X.env.scope.names.lookup y=some .cell
 hcl:∀cl,X.env.cells.lookup y=some cl->closureFor scope X.env=pure [(y,cl)]
 hgl:X.env.globals=Ah
 hco:X.env.code=.ref c
 hhd:PySem.W.CodeHd X.base c yx
 hbi:X.base.BuiltinsAt X.mg yx
 hdf:defaultsOf params X.env=([],[])
 hq:X.env.qual++("<lambda>":Str)=wB
 hne:Ah≠yx
 hb:∀u cl c' pm ctv,bindArgs (PySem.W.kla_fn "<lambda>" wB params (pairE x y n1 p1 p2 p3 p4 p5 p6) scope [(y,cl)] pm (.ref c') ctv) ⟨[u],[]⟩=pure [(x,u)]
 hdx:(x == ("__debug__":Str))=false
 hdy:(y == ("__debug__":Str))=false
 hcx:(x == ("__classdict__":Str))=false
 hcy:(y == ("__classdict__":Str))=false
def kP {j k:Nat}{c:Ae}{Q:List Aa->Prop}(T:aq X c x y n1 p1 p2 p3 p4 p5 p6 params scope)(hr:zR (k+2) X.A)(hg:Gl X "sorted")(hm:X.mg "sorted"=none)(O:X.N[j]?=some y)
  (h:EvD X L a λd=>∃ns zs:List Int,d=.list (ns.map .int)/\L[j]?=some (some (.dat (.list (zs.map .int))))/\ns.length<64/\(∀n∈ns,0<=n/\n<zs.length)/\∀ms,tN ns zs ms->Q (ms.map .int))
  (he:Af [a] X.env=(false,eval a X.env)::Af [] X.env:=by rfl) (r:backTo pos (Af [a] X.env)=(false,eval a X.env)::backTo pos (Af [] X.env):=by rfl) (hpl:((backTo pos (Af [a] X.env)).any λx=>x.1)=false:=by rfl):
  EvL X L (.Call (.Name "sorted" p) [a] [⟨some "key",.Lambda params (pairE x y n1 p1 p2 p3 p4 p5 p6) scope lpos,kpos⟩] pos) Q:=λF B H R m k=>by
 refine⟨_,kl T.S hr hg hm O T.hy T.hcl T.hgl T.hco T.hhd T.hbi T.hdf T.hq T.hne T.hb T.hdx T.hdy T.hcx T.hcy zf he r hpl,h F B H _ m λd V H1 C t1 g J=>?_⟩;have m1:=m.kz g t1;obtain⟨ns,zs,rfl,P,s,u,q⟩:=C;obtain⟨l,xs,rfl,g1,g2⟩:=J.lst_inv;obtain⟨v,s1,s2⟩:=m1.dat j _ P;obtain⟨G,ys,rfl,g3,U⟩:=s2.lst_inv;cases g2.ints;cases U.ints;refine⟨l,ns,G,zs,rfl,SqL.of (zc g1).2,s1,SqL.of (zc g3).2,s,u,t1.tab,λD H' ms f w K E kp=>?_⟩;have i:∀a xs,H1 a=some (.lst xs)->H' a=some (.lst xs):=λa xs e=>kp a _ (λz=>by
  obtain⟨ps,e1,_⟩:=t1.tab.ex;rw[z,e1]at e;cases e) e
 have kz:Kz F H1 H':=λx o e n=>kp x o n.2 e;refine k _ _ H' (q ms K) ⟨E,t1.ot,λt b c e=>⟨?_,(t1 t b c e).2⟩⟩ (g.trans kz) ⟨D,_,rfl,?_,w,sQ _⟩
 .obtain⟨n,bs,cs,n1,e1,I,M,l1,l2⟩:=(t1 t b c e).1.ex;exact⟨n,bs,cs,n1,i _ _ e1,i _ _ I,i _ _ M,l1,l2⟩
 .cases z:H D with
  |none=>rfl
  |some o=>rw[g D o z (m.tp.nt (ow0 (m1.fresh f)))]at f;cases f
end
section
variable {P:Ag}{w:Ai}{K:Ac}{mg:Str->Option Ab}{base:Ao}
def zU6 {x qual:Str}{st:An}{f:Ae}{N ps:List Str}{k:Nat}{φ:List A->(A->Prop)->Prop}{oc:Ab}{od an:Option Ae}{osl:Array (Option Ab)}{kV doc pm cdv ct:Ab}
  (p:K.lookup f=some ⟨oc,od,.func (PySem.W.fnOf x qual (zT st) (zt st) (zh st) .none kV doc pm an cdv ct),osl⟩) (g:PySem.W.codeIn K cdv qual=true) (S:ya N ps (zh st)) (hlen:∀as Q,φ as Q->as.length=ps.length)
  (b:∀(d:Am) (outer:List Ar) (s:Ad) (H:Hp) (E:XK) (as:List A) (Q:A->Prop),zR k (d.deeper (envOfC qual (zh st) s.heap.objs.size f cdv))->φ as Q->
   SvS (vv CX0 P w K mg base N qual (zh st) f cdv d outer s H E).nox (as.map some++List.replicate (N.length-as.length) none) (zt st) {nx:=λ_=>Q (.dat .none),rt:=Q}):yE P w K mg base CX0 (k+1) f (PySem.W.fnOf x qual (zT st) (zt st) (zh st) .none kV doc pm an cdv ct) ps (spA φ):=by
 refine bE p g S (λvs H Q E h=>?_) (λd outer s H vs l E hr h=>?_)
 .obtain⟨F,as,n,_,_,_,i,c,_⟩:=h;rw[i.length,hlen as _ c]
 .obtain⟨F,as,n,e,t,o,i,c,j⟩:=h;have:=b d outer s H E as n hr c F _ H {nx:=λ_ H'=>l .non H',rt:=l} (M.start e t o i) ⟨λL B H' m q=>?_,λa v H' r q=>j a v H' q r,λ_ _ _ _ z=>z.elim,λ_ _ _ _ z=>z.elim⟩
  .obtain⟨t,h,q⟩:=this;exact⟨t,h.nox,q⟩
  .exact j _ _ _ q ⟨m.tp,m.keep,.non⟩
end
section
variable {X:Cx}{L:Ev}{Q:Aa->Prop}{a b:Ak}{pos:Pos}
end
def mV (c:Int)(n:Nat):zo c (n+1)=zo c n++[c+(n:Nat)]:=by simp[zo,List.range_succ]
def yC {c m:Int}{n:Nat}:m∈zo c n↔c<=m/\m<c+n:=by
 simp only[zo,z33,yd0]
 constructor
 .rintro⟨i,hi,rfl⟩;lia
 .rintro⟨h1,h2⟩;exact⟨(m-c).toNat,by lia,(zQ9 h1)⟩
theorem pf (c:Int):∀n:Nat,(zo c n).Nodup
 |0=>by simp[zo]
 |n+1=>by
  rw[mV,List.nodup_append];refine⟨pf c n,by simp,?_⟩;intro a ha b hb;rw[yC]at ha;simp at hb;exact Int.ne_of_lt (yb2 ha.2 (Int.le_of_eq hb.symm))
def tI (zs:List Int)(many free i:Nat)(bs:List Bool):Prop:=
 bs.length=zs.length/\(∀j,i / many*many<=j->bs.getD j false=false)/\∀k,k<i / many->∃ms:List Int,tN (zo ((k*many:Nat):Int) many) zs ms/\∀q,q<many->bs.getD (ms.getD q 0).toNat false=decide (q<free)
def fq (zs:List Int){many:Nat}(free:Nat):tI zs many free 0 (List.replicate zs.length false):=by
 refine⟨by simp,λj _=>?_,λk hk=>?_⟩
 .rw[z00,ya6];split<;>rfl
 .rw[Nat.zero_div]at hk;exact(z56 _ (z29 (z21 _) hk)).elim
def rX {i many:Nat}(h:0<many)(h1:i % many+1<many):(i+1) / many=i / many/\(i+1) % many=i % many+1:=by
 have e:=yf1 i many;have a:i+1=(i % many+1)+many*(i / many):=by lia
 constructor
 .rw[a,Nat.add_mul_div_left _ _ h,Nat.div_eq_of_lt h1,yi9]
 .rw[a,Nat.add_mul_mod_self_left,Nat.mod_eq_of_lt h1]
def mD {i many:Nat}(h:0<many)(h1:i % many+1=many):(i+1) / many=i / many+1/\(i+1) % many=0/\(i / many+1)*many=i+1:=by
 have e:=yf1 i many;have a:many*(i / many+1)=i+1:=by rw[Nat.mul_add,Nat.mul_one];lia
 refine⟨?_,?_,?_⟩
 .rw[<-a,Nat.mul_div_cancel_left _ h]
 .rw[<-a,Nat.mul_mod_right]
 .rw[Nat.mul_comm];exact a
def fw {zs:List Int}{many free i:Nat}{bs:List Bool}(h:0<many)(h1:i % many+1<many)(m:tI zs many free i bs):tI zs many free (i+1) bs:=by
 unfold tI at *;rw[(rX h h1).1];exact m
def vZ {lo:Int}{n:Nat}{zs ms:List Int}(s:tN (zo lo n) zs ms){q:Nat}(h:q<n):lo<=ms.getD q 0/\ms.getD q 0<lo+n:=by
 have a:ms.length=n:=by rw[s.1.length_eq,zb]
 have:ms.getD q 0∈ms:=by
  rw[z00,zZ5 (zZ7 h (z26 a.symm))];exact z69 _
 exact yC.mp (s.1.mem_iff.mp this)
def ef {zs ms:List Int}{many free i:Nat}{bs a:List Bool}(h:0<many)(h1:i % many+1=many)(m:tI zs many free i bs)(s:tN (zo ((i / many*many:Nat):Int) many) zs ms)
  (l:a.length=bs.length) (e1:∀q,q<many->a.getD (ms.getD q 0).toNat false=decide (q<free)) (f:∀j,(∀q,q<many->(ms.getD q 0).toNat≠j)->a.getD j false=bs.getD j false):tI zs many free (i+1) a:=by
 obtain⟨e,p,g⟩:=mD h h1;obtain⟨m1,m2,m3⟩:=m;refine⟨by rw[l,m1],λj n=>?_,λk hk=>?_⟩
 .rw[e,g]at n;rw[f j λq hq=>?_,m2 j (by lia)];have:=vZ s hq
  lia
 .rw[e]at hk;by_cases b:k=i / many
  .subst b;exact⟨ms,s,e1⟩
  .obtain⟨c,s2,f2⟩:=m3 k (aI hk b);refine⟨c,s2,λq hq=>?_⟩;rw[f _ λo d=>?_,f2 q hq];have a1:=vZ s d;have a2:=vZ s2 hq;have:(k+1)*many<=i / many*many:=yj0 _ (by lia);rw[Nat.add_mul,Nat.one_mul]at this
   lia
def zB7 {lo:Int}{n:Nat}{zs ms:List Int}(s:tN (zo lo n) zs ms){m:Int}(h1:lo<=m)(h2:m<lo+n):∃q,q<n/\ms.getD q 0=m:=by
 have a:ms.length=n:=by rw[s.1.length_eq,zb]
 obtain⟨q,hq,e⟩:=ye2.mp (s.1.mem_iff.mpr (yC.mpr ⟨h1,h2⟩));exact⟨q,(zZ7 hq (z26 a)),by rw[z00,zZ5 hq];exact e⟩
open PySem (IsZip)
section
variable {prog:Ag}{w:Ai}{A:Am}{E:Ab->Ad->Prop}{s:Ad}
def nW {M:Model}{a:Ae}{Q:Option Obj->Ad->Prop}(h:Q (s.heap.get? a) s):Aj M A (loadIfAlive a) Q E s:=λb p c=>by
 show Sem.wp M b (.loadIfAlive a .pure) _ _ p s;rw[Sem.wp_loadIfAlive];exact h
noncomputable abbrev zO (f0 f1:Ab)(TI TO:Ae):Obj:={cls:=.type "zip",dict:=none,data:=.fields #[f0,f1,.bool false,.ref TI,.ref TO],slots:=#[]}
noncomputable abbrev tO3 (a b c:Ab):Obj:={cls:=.type "tuple",data:=.seq #[a,b,c]}
def xN {T:Ae}{a b c x:Ab}{k:Nat}{Q:Unit->Ad->Prop}(d:s.heap.get? T=some (tO3 a b c))
  (h:∀h',h'.get? T=some {cls:=.type "tuple",data:=.seq ((#[a,b,c]:Array Ab).setIfInBounds k x)}->Heap.SameBut T s.heap h'->Q () {s with heap:=h'}):
  Aj (Al prog w) A (updateSeq T (·.setIfInBounds k x)) Q E s:=by
 refine z95 d rfl (h _ ?_ (ye7 ..));rw[yd3 _ d rfl];simp[Obj.mapSeq]
structure wL (h:Ao)(n:Nat)(l1 l2 l3:Ae)(k:Nat)(f0 f1 a b c:Ab):Prop where
 z:h.get? (n+5:Nat)=some (zO f0 f1 (n+3:Nat) (n+4:Nat))
 ti:h.get? (n+3:Nat)=some (tO3 (.ref (n:Nat)) (.ref (n+1:Nat)) (.ref (n+2:Nat)))
 to:h.get? (n+4:Nat)=some (tO3 a b c)
 i1:h.IsListIter (n:Nat) l1 k
 i2:h.IsListIter (n+1:Nat) l2 k
 i3:h.IsListIter (n+2:Nat) l3 k
noncomputable abbrev z3 (n:Nat):List Ae:=[(n:Nat),(n+1:Nat),(n+2:Nat),(n+3:Nat),(n+4:Nat),(n+5:Nat)]
def zp (a b:Nat)(h:a<b\/b<a):@Ne Ae a b:=λe=>by lia
def kb {n l1 l2 l3:Nat}{k:Nat}{f1 a b c x y z:Ab}{xs ys zs:Array Ab}{Q:Ab->Ad->Prop}(h1:l1<n)(h2:l2<n)(h3:l3<n)(Z:wL s.heap n l1 l2 l3 k .none f1 a b c)
  (a6:s.heap.IsList l1 xs) (a4:s.heap.IsList l2 ys) (a7:s.heap.IsList l3 zs) (hx:xs[k]?=some x) (hy:ys[k]?=some y) (hz:zs[k]?=some z)
  (hQ:∀h',wL h' n l1 l2 l3 (k+1) (rawInt s.heap.objs.size) (.bool false) x y z->h'.get? s.heap.objs.size=some (tO3 x y z)->
   (∀c o,c∉z3 n->s.heap.get? c=some o->h'.get? c=some o)->Q (.ref s.heap.objs.size) {s with heap:=h'}):
  Aj (Al prog w) A (Builtin.«zip.__next__» ⟨[.ref (n+5:Nat)],[]⟩) (λfin s'=>∃v,fin=.done (.ret v)/\Q v s') E s:=by
 obtain⟨H,V,a5,g1,g2,g3⟩:=Z;show Aj _ _ (field (.ref _) 2 >>= _) _ _ _;refine zZ3 (z89 H rfl rfl ?_);refine zZ3 (z89 H rfl rfl (zZ3 (z76 V rfl ?_)));refine zZ3 ?_;unfold Builtin.SmallTypes.ownedTupleIsFree;refine zZ3 (z89 H rfl rfl (z02 ?_));simp only[yc1];refine zZ3 (wpAny_rule (zZ3 (z89 H rfl rfl ?_)));refine zZ3 (yf9 H (by simp) λa3 u d=>?_)
 replace u:a3.get? (n+5:Nat)=some (zO .ellipsis f1 (n+3:Nat) (n+4:Nat)):=u
 refine zZ3 ?_;simp only[List.zipIdx_cons,List.zipIdx_nil,yi8,List.forIn_nil];refine zZ3 (zZ3 (wpAny_onRaise ?_));refine zZ3 (z96 (g1.extBut d.extBut (by refine zp _ _ ?_;exact br)) (a6.extBut d.extBut (by refine zp _ _ ?_;exact .inl (zZ7 h1 (z23 _ _)))) hx λa9 N f=>z02 ?_);have C:=f.extBut _ _ (by refine zp _ _ ?_;exact zz5) (d.extBut _ _ (by refine zp _ _ ?_;exact aH) a5);refine zZ3 (z76 C rfl (zZ3 (xN C λW q g=>?_)))
 replace q:W.get? (n+4:Nat)=some (tO3 x b c):=q
 refine zZ3 (yb0 (z02 (zZ3 (zZ3 (wpAny_onRaise ?_)))));refine zZ3 (z96 (((g2.extBut d.extBut (by refine zp _ _ ?_;exact du)).extBut f.extBut (by refine zp _ _ ?_;exact .inr (z64 _))).extBut g.extBut (by refine zp _ _ ?_;exact aT))
  (((a4.extBut d.extBut (by refine zp _ _ ?_;exact .inl (zZ7 h2 (z23 _ _)))).extBut f.extBut (by refine zp _ _ ?_;exact .inl h2)).extBut g.extBut (by refine zp _ _ ?_;exact .inl (zZ7 h2 (z23 _ _)))) hy λb0 O h=>z02 ?_)
 have D:=h.extBut _ _ (by refine zp _ _ ?_;exact zw7) q;refine zZ3 (z76 D rfl (zZ3 (xN D λa2 r i=>?_)))
 replace r:a2.get? (n+4:Nat)=some (tO3 x y c):=r
 refine zZ3 (yb0 (z02 (zZ3 (zZ3 (wpAny_onRaise ?_)))));refine zZ3 (z96 (((((g3.extBut d.extBut (by refine zp _ _ ?_;exact zd6)).extBut f.extBut (by refine zp _ _ ?_;exact zA4)).extBut g.extBut (by refine zp _ _ ?_;exact ak)).extBut h.extBut (by refine zp _ _ ?_;exact zu7)).extBut i.extBut (by refine zp _ _ ?_;exact ak))
  (((((a7.extBut d.extBut (by refine zp _ _ ?_;exact .inl (zZ7 h3 (z23 _ _)))).extBut f.extBut (by refine zp _ _ ?_;exact .inl h3)).extBut g.extBut (by refine zp _ _ ?_;exact .inl (zZ7 h3 (z23 _ _)))).extBut h.extBut (by refine zp _ _ ?_;exact .inl (zZ7 h3 (z23 _ _)))).extBut i.extBut (by refine zp _ _ ?_;exact .inl (zZ7 h3 (z23 _ _)))) hz λa8 M j=>z02 ?_)
 have B:=j.extBut _ _ (by refine zp _ _ ?_;exact zv3) r;refine zZ3 (z76 B rfl (zZ3 (xN B λp m l=>?_)))
 replace m:p.get? (n+4:Nat)=some (tO3 x y z):=m
 refine zZ3 (yb0 (z02 (z02 (zZ3 (z76 m rfl ?_)))));refine zZ3 (wpAny_newTuple ?_);have a1:p.objs.size=s.heap.objs.size:=by rw[l.1,j.1,i.1,h.1,g.1,f.1,d.1]
 have Y:∀c o,c≠(n+5:Nat)->c≠n->c≠(n+4:Nat)->c≠(n+1:Nat)->c≠(n+2:Nat)->s.heap.get? c=some o->p.get? c=some o:=λc o c1 c2 c3 c4 c5 e=>
  l.extBut _ _ c3 (j.extBut _ _ c5 (i.extBut _ _ c3 (h.extBut _ _ c4 (g.extBut _ _ c3 (f.extBut _ _ c2 (d.extBut _ _ c1 e))))))
 have F:=l.extBut _ _ (by refine zp _ _ ?_;exact dE) (j.extBut _ _ (by refine zp _ _ ?_;exact zw4) (i.extBut _ _ (by refine zp _ _ ?_;exact dE) (h.extBut _ _ (by refine zp _ _ ?_;exact zt2) (g.extBut _ _ (by refine zp _ _ ?_;exact dE) (f.extBut _ _ (by refine zp _ _ ?_;exact zA3) u)))));have R:=((((N.extBut g.extBut (by refine zp _ _ ?_;exact bK)).extBut h.extBut (by refine zp _ _ ?_;exact .inl (z64 _))).extBut i.extBut (by refine zp _ _ ?_;exact bK)).extBut j.extBut (by refine zp _ _ ?_;exact zu8)).extBut l.extBut (by refine zp _ _ ?_;exact bK);have P:=((O.extBut i.extBut (by refine zp _ _ ?_;exact aT)).extBut j.extBut (by refine zp _ _ ?_;exact zu4)).extBut l.extBut (by refine zp _ _ ?_;exact aT);have S:=M.extBut l.extBut (by refine zp _ _ ?_;exact ak);have I:=Y _ _ (by refine zp _ _ ?_;exact dN) (by refine zp _ _ ?_;exact zz4) (by refine zp _ _ ?_;lia) (by refine zp _ _ ?_;exact zv6) (by refine zp _ _ ?_;exact zv8) V;have K:=z07 F;refine zZ3 ?_;unfold Builtin.SmallTypes.ownedTupleHandOut;have L:(p.push {cls:=.type "tuple",data:=.seq #[x,y,z]}).get? (n+5:Nat)=some (zO .ellipsis f1 (n+3:Nat) (n+4:Nat)):=zZ4 _ F;refine zZ3 (yf9 L (by simp) λU t G=>?_)
 replace t:U.get? (n+5:Nat)=some (zO (rawInt p.objs.size) f1 (n+3:Nat) (n+4:Nat)):=t
 refine yf9 t (by simp) λhA J X=>?_
 replace J:hA.get? (n+5:Nat)=some (zO (rawInt p.objs.size) (.bool false) (n+3:Nat) (n+4:Nat)):=J
 have up:∀c o,c≠(n+5:Nat)->p.get? c=some o->hA.get? c=some o:=λc o c1 e=>X.extBut _ _ c1 (G.extBut _ _ c1 (zZ4 _ e));have a0:=X.extBut _ _ (yb1 K) (G.extBut _ _ (yb1 K) (z08 _ rfl));rw[a1]at J a0;refine z02 ⟨_,rfl,?_⟩;rw[a1];refine hQ hA ⟨J,up _ _ (by refine zp _ _ ?_;exact dN) I,up _ _ (by refine zp _ _ ?_;exact aH) m,R.at λo e=>up _ o (by refine zp _ _ ?_;exact br) e,P.at λo e=>up _ o (by refine zp _ _ ?_;exact du) e,S.at λo e=>up _ o (by refine zp _ _ ?_;exact zd6) e⟩ a0 λc o T e=>?_;simp only[z3,zZ9,z31,z57,not_or]at T;exact up c o T.2.2.2.2.2 (Y c o T.2.2.2.2.2 T.1 T.2.2.2.2.1 T.2.1 T.2.2.1 e)
def qM {n l1 l2 l3 k T:Nat}{f1 a b c:Ab}{ot:Obj}{Q:Bool->Ad->Prop}(h1:l1<n)(h2:l2<n)(h3:l3<n)(Z:wL s.heap n l1 l2 l3 k (rawInt (T:Nat)) f1 a b c)(q:s.heap.get? T=some ot)
  (m:∀h' l,wL h' n l1 l2 l3 k (rawInt (T:Nat)) l a b c->h'.objs.size=s.heap.objs.size->(∀c o,c≠(n+5:Nat)->s.heap.get? c=some o->h'.get? c=some o)->Q false {s with heap:=h'}):
  Aj (Al prog w) A (Builtin.SmallTypes.ownedTupleIsFree (.ref (n+5:Nat))) Q E s:=by
 obtain⟨g,i,j,g1,g2,g3⟩:=Z;unfold Builtin.SmallTypes.ownedTupleIsFree;refine zZ3 (z89 g rfl rfl ?_);refine zZ3 (nW ?_);rw[show((T:Int).toNat)=T from z67 T,q];refine zZ3 (z89 g rfl rfl (yc6 (λ_=>?_) (λ_=>?_)))
 .refine zZ3 (yf9 g (by simp) λh f d=>z02 ?_)
  replace f:h.get? (n+5:Nat)=some (zO (rawInt T) (.bool true) (n+3:Nat) (n+4:Nat)):=f
  exact m h _ ⟨f,d.extBut _ _ (by refine zp _ _ ?_;exact dN) i,d.extBut _ _ (by refine zp _ _ ?_;exact aH) j,g1.extBut d.extBut (by refine zp _ _ ?_;exact br),g2.extBut d.extBut (by refine zp _ _ ?_;exact du),g3.extBut d.extBut (by refine zp _ _ ?_;exact zd6)⟩ d.1 λc o p e=>d.extBut _ _ p e
 .exact z02 (m s.heap f1 ⟨g,i,j,g1,g2,g3⟩ rfl λ_ _ _ e=>e)
def gX {n l1 l2 l3 k T:Nat}{f1 a b c x y z:Ab}{ot:Obj}{xs ys zs:Array Ab}{Q:Ab->Ad->Prop}(h1:l1<n)(h2:l2<n)(h3:l3<n)(Z:wL s.heap n l1 l2 l3 k (rawInt (T:Nat)) f1 a b c)(N:s.heap.get? T=some ot)
  (j:s.heap.IsList l1 xs) (m:s.heap.IsList l2 ys) (p:s.heap.IsList l3 zs) (P:xs[k]?=some x) (hy:ys[k]?=some y) (U:zs[k]?=some z)
  (V:∀h' u,wL h' n l1 l2 l3 (k+1) (rawInt (T:Nat)) u a b c->h'.get? s.heap.objs.size=some (tO3 x y z)->
   (∀c o,c∉z3 n->s.heap.get? c=some o->h'.get? c=some o)->Q (.ref s.heap.objs.size) {s with heap:=h'}):
  Aj (Al prog w) A (Builtin.«zip.__next__» ⟨[.ref (n+5:Nat)],[]⟩) (λfin s'=>∃v,fin=.done (.ret v)/\Q v s') E s:=by
 show Aj _ _ (field (.ref _) 2 >>= _) _ _ _;refine zZ3 (z89 Z.z rfl rfl ?_);refine zZ3 (z89 Z.z rfl rfl (zZ3 (z76 Z.ti rfl ?_)));refine zZ3 (qM h1 h2 h3 Z N λG u ZB H F=>?_);obtain⟨K,I,J,g1,g2,g3⟩:=ZB
 replace j:G.IsList l1 xs:=j.at λo e=>F _ o (by refine zp _ _ ?_;exact .inl (zZ7 h1 (z23 _ _))) e
 replace m:G.IsList l2 ys:=m.at λo e=>F _ o (by refine zp _ _ ?_;exact .inl (zZ7 h2 (z23 _ _))) e
 replace p:G.IsList l3 zs:=p.at λo e=>F _ o (by refine zp _ _ ?_;exact .inl (zZ7 h3 (z23 _ _))) e
 simp only[z52,z87];rw[yk0];simp only[yi8,List.forIn_nil];refine zZ3 (zZ3 (zZ3 (z72 ?_)));refine zZ3 (z96 g1 j P λM q d=>z02 (z02 (zZ3 (zZ3 (z72 ?_)))));refine zZ3 (z96 (g2.extBut d.extBut (by refine zp _ _ ?_;exact .inr (z64 _))) (m.extBut d.extBut (by refine zp _ _ ?_;exact .inl h2)) hy λL r f=>z02 (z02 ?_));refine zZ3 (zZ3 (z72 ?_));refine zZ3 (z96 ((g3.extBut d.extBut (by refine zp _ _ ?_;exact zA4)).extBut f.extBut (by refine zp _ _ ?_;exact zu7)) ((p.extBut d.extBut (by refine zp _ _ ?_;exact .inl h3)).extBut f.extBut (by refine zp _ _ ?_;exact .inl (zZ7 h3 (z23 _ _)))) U λh l g=>z02 (z02 (z02 ?_)));refine zZ3 (wpAny_newTuple ?_ (by show 3<=sizeLine;decide));have D:h.objs.size=s.heap.objs.size:=by rw[g.1,f.1,d.1];exact H
 have i:∀c o,c≠n->c≠(n+1:Nat)->c≠(n+2:Nat)->G.get? c=some o->h.get? c=some o:=λc o O S R e=>g.extBut _ _ R (f.extBut _ _ S (d.extBut _ _ O e));have up:∀c o,h.get? c=some o->(h.push {cls:=.type "tuple",data:=.seq #[x,y,z]}).get? c=some o:=λc o e=>zZ4 _ e;have t:=(q.extBut f.extBut (by refine zp _ _ ?_;exact .inl (z64 _))).extBut g.extBut (by refine zp _ _ ?_;exact zu8);have B:=r.extBut g.extBut (by refine zp _ _ ?_;exact zu4);refine z02 ⟨_,rfl,?_⟩;rw[D];refine V _ u ⟨up _ _ (i _ _ (by refine zp _ _ ?_;exact zA3) (by refine zp _ _ ?_;exact zt2) (by refine zp _ _ ?_;exact zw4) K),up _ _ (i _ _ (by refine zp _ _ ?_;exact zz4) (by refine zp _ _ ?_;exact zv6) (by refine zp _ _ ?_;exact zv8) I),up _ _ (i _ _ (by refine zp _ _ ?_;exact zz5) (by refine zp _ _ ?_;exact zw7) (by refine zp _ _ ?_;exact zv3) J),t.at λo e=>up _ o e,B.at λo e=>up _ o e,l.at λo e=>up _ o e⟩ ?_ λc o C e=>?_
 .rw[<-D];exact z08 _ rfl
 .simp only[z3,zZ9,z31,z57,not_or]at C;exact up c o (i c o C.1 C.2.1 C.2.2.1 (F c o C.2.2.2.2.2 e))
def bx {n l1 l2 l3 k T:Nat}{f1 a b c:Ab}{ot:Obj}{xs:Array Ab}{Q:PySem.Fin->Ad->Prop}(m:A.handled=none)(h1:l1<n)(h2:l2<n)(h3:l3<n)(Z:wL s.heap n l1 l2 l3 k (rawInt (T:Nat)) f1 a b c)(u:s.heap.get? T=some ot)
  (d:s.heap.IsList l1 xs) (p:xs[k]?=none)
  (t:∀h' e,(∀c o,c∉z3 n->s.heap.get? c=some o->h'.get? c=some o)->(∃o,h'.get? e=some o/\o.cls=.type "StopIteration")->E (.ref e) {s with heap:=h'}):
  Aj (Al prog w) A (Builtin.«zip.__next__» ⟨[.ref (n+5:Nat)],[]⟩) Q E s:=by
 show Aj _ _ (field (.ref _) 2 >>= _) _ _ _;refine zZ3 (z89 Z.z rfl rfl ?_);refine zZ3 (z89 Z.z rfl rfl (zZ3 (z76 Z.ti rfl ?_)));refine zZ3 (qM h1 h2 h3 Z u λl r ZB j i=>?_)
 replace d:l.IsList l1 xs:=d.at λo e=>i _ o (by refine zp _ _ ?_;exact .inl (zZ7 h1 (z23 _ _))) e
 simp only[z52,z87];rw[yk0];simp only[yi8,List.forIn_nil];refine zZ3 (zZ3 (zZ3 (z72 ?_)));refine zZ3 (wpAny_nextOf_list_end m ZB.i1 d p λg e f he=>t g e (λc o h q=>?_) he);simp only[z3,zZ9,z31,z57,not_or]at h;exact f _ _ h.1 (i _ _ h.2.2.2.2.2 q)
def mZ {n l1 l2 l3 k:Nat}{f1 a b c x y z:Ab}{xs ys zs:Array Ab}{Q:Option Ab->Ad->Prop}(h1:l1<n)(h2:l2<n)(h3:l3<n)(Z:wL s.heap n l1 l2 l3 k .none f1 a b c)
  (d:s.heap.IsList l1 xs) (e:s.heap.IsList l2 ys) (f:s.heap.IsList l3 zs) (i:xs[k]?=some x) (hy:ys[k]?=some y) (j:zs[k]?=some z)
  (l:∀h',wL h' n l1 l2 l3 (k+1) (rawInt s.heap.objs.size) (.bool false) x y z->h'.get? s.heap.objs.size=some (tO3 x y z)->
   (∀c o,c∉z3 n->s.heap.get? c=some o->h'.get? c=some o)->Q (some (.ref s.heap.objs.size)) {s with heap:=h'}):
  Aj (Al prog w) A (pyNext (.ref (n+5:Nat))) Q E s:=by
 have g:s.TypeIs (.ref (n+5:Nat)) "zip":=⟨_,Z.z,rfl⟩;unfold pyNext;exact zZ3 (wpAny_attempt (yc4 g z86
  (yd9 z86 g yg7
   (kb h1 h2 h3 Z d e f i hy j λh' a1 a2 h=>z02 (l h' a1 a2 h)) (yg2 _))))
def jk {n l1 l2 l3 k T:Nat}{f1 a b c x y z:Ab}{ot:Obj}{xs ys zs:Array Ab}{Q:Option Ab->Ad->Prop}(h1:l1<n)(h2:l2<n)(h3:l3<n)(Z:wL s.heap n l1 l2 l3 k (rawInt (T:Nat)) f1 a b c)(i:s.heap.get? T=some ot)
  (f:s.heap.IsList l1 xs) (g:s.heap.IsList l2 ys) (h:s.heap.IsList l3 zs) (l:xs[k]?=some x) (hy:ys[k]?=some y) (m:zs[k]?=some z)
  (p:∀h' d,wL h' n l1 l2 l3 (k+1) (rawInt (T:Nat)) d a b c->h'.get? s.heap.objs.size=some (tO3 x y z)->
   (∀c o,c∉z3 n->s.heap.get? c=some o->h'.get? c=some o)->Q (some (.ref s.heap.objs.size)) {s with heap:=h'}):
  Aj (Al prog w) A (pyNext (.ref (n+5:Nat))) Q E s:=by
 have e:s.TypeIs (.ref (n+5:Nat)) "zip":=⟨_,Z.z,rfl⟩;unfold pyNext;exact zZ3 (wpAny_attempt (yc4 e z86
  (yd9 z86 e yg7
   (gX h1 h2 h3 Z i f g h l hy m λh' d a1 a2 j=>z02 (p h' d a1 a2 j)) (yg2 _))))
def gZ {n l1 l2 l3 k T:Nat}{f1 a b c:Ab}{ot:Obj}{xs:Array Ab}{Q:Option Ab->Ad->Prop}(g:A.handled=none)(h1:l1<n)(h2:l2<n)(h3:l3<n)(Z:wL s.heap n l1 l2 l3 k (rawInt (T:Nat)) f1 a b c)(j:s.heap.get? T=some ot)
  (f:s.heap.IsList l1 xs) (i:xs[k]?=none)
  (m:∀h',(∀c o,c∉z3 n->s.heap.get? c=some o->h'.get? c=some o)->Q none {s with heap:=h'}):
  Aj (Al prog w) A (pyNext (.ref (n+5:Nat))) Q E s:=by
 have d:s.TypeIs (.ref (n+5:Nat)) "zip":=⟨_,Z.z,rfl⟩;unfold pyNext;refine zZ3 (wpAny_attempt (yc4 d z86
  (yd9 z86 d yg7 (bx g h1 h2 h3 Z j f i λh' e hk he=>?_) (yg2 _))))
 obtain⟨o,l,h⟩:=he;exact zZ3 (wpAny_isInstance ⟨o,l,h⟩ isSubtype_stop (z02 (m _ hk)))
end
section
variable {X:Cx}{pins:List (Ae×Obj)}{B:St}{H:Hp}{s:Ad}
def Tri (H0 H:Hp)(xs ys zs vs:List V)(i:Nat):Prop:=vs.length=i/\∀j,j<i->∃t x y z,vs[j]?=some (.ref t)/\xs[j]?=some x/\ys[j]?=some y/\zs[j]?=some z/\H t=some (.tup [x,y,z])/\H0 t=none
structure ZAt (X:Cx)(pins:List (Ae×Obj))(B:St)(H:Hp)(n l1 l2 l3:Nat)(S:Ae)(xs ys zs:List V)(i:Nat)(s':Ad):Prop where
 ex:∃(H':Hp) (acc:List Ab) (vs:List V) (e:Nat) (f0 f1 a b c:Ab),Inv X pins B H' s'/\(∀a o,H a=some o->H' a=some o)/\s'.heap.get? S=some {cls:=.type "list",dict:=none,data:=.seq acc.toArray e,slots:=#[]}/\H' S=none/\(∀b∈z3 n,H' b=none)/\
  wL s'.heap n l1 l2 l3 i f0 f1 a b c/\(i=0/\f0=.none\/∃(T:Nat) (ot:Obj),f0=rawInt (T:Nat)/\s'.heap.get? T=some ot/\T∉S::z3 n)/\Vals vs acc/\Tri H H' xs ys zs vs i
structure zG7 (X:Cx)(pins:List (Ae×Obj))(B:St)(H:Hp)(S:Ae)(xs ys zs:List V)(s':Ad):Prop where
 ex:∃(H':Hp) (acc:List Ab) (vs:List V) (e:Nat),Inv X pins B H' s'/\(∀a o,H a=some o->H' a=some o)/\s'.heap.get? S=some {cls:=.type "list",dict:=none,data:=.seq acc.toArray e,slots:=#[]}/\H' S=none/\Vals vs acc/\Tri H H' xs ys zs vs xs.length
def Tri.snoc {H0 H H':Hp}{xs ys zs vs:List V}{i:Nat}{t:Ae}{x y z:V}(h:Tri H0 H xs ys zs vs i)(k:∀a o,H a=some o->H' a=some o)(d:xs[i]?=some x)(hy:ys[i]?=some y)(u:zs[i]?=some z)(l:H' t=some (.tup [x,y,z]))(hn:H0 t=none):Tri H0 H' xs ys zs (vs++[.ref t]) (i+1):=by
 refine⟨by rw[z24,h.1];rfl,λj n=>?_⟩;rcases yc2 j i with b|b
 .obtain⟨t',q,f,p,e1,m,c,g,e,r⟩:=h.2 j b;exact⟨t',q,f,p,by rw[z83 (by rw[h.1];exact b)];exact e1,m,c,g,k _ _ e,r⟩
 .have:j=i:=(ya2 (z94 n) b);subst this;exact⟨t,x,y,z,by rw[yb6 (by rw[h.1];exact zZ8 _),h.1];simp,d,hy,u,l,hn⟩
theorem gk {A:Am}{R:Result->Ad->Prop}{n l1 l2 l3:Nat}{S:Ae}{xs ys zs:List V}(hh:A.handled=none)(h1:l1<n)(h2:l2<n)(h3:l3<n)(fS:∀H',H' S=none->xg X pins H' S)(fz:∀b∈z3 n,∀H',H' b=none->xg X pins H' b)(l:S∉z3 n)
  (Q:SqL X.K H l1 xs) (q2:SqL X.K H l2 ys) (q3:SqL X.K H l3 zs) (e2:ys.length=xs.length) (e3:zs.length=xs.length) (h0:0<xs.length) (hN:xs.length<=1000)
  (hR:∀s',zG7 X pins B H S xs ys zs s'->R (.ok (.ret .none)) s'):
  ∀(k i:Nat) (s:Ad),xs.length-i=k->i<=xs.length->ZAt X pins B H n l1 l2 l3 S xs ys zs i s->codeAny (Al X.prog X.w) A (.builtin "list.extend.loop" ⟨[.ref S,.ref (n+5:Nat),.none],[]⟩) R s:=by
 intro k
 induction k with
 |zero=>
  intro i s hk hi y;have a2:=(zt5 hk hi);subst a2;obtain⟨H',acc,vs,e,f0,f1,a,b,c,I,st,N,nS,U,Z,fr,W,tr⟩:=y.ex;refine yf2 PySem.F.entry_extend_loop ?_;rw[yc0 z85 _];rcases fr with⟨z,_⟩|⟨T,ot,rfl,D,g⟩
  .exact(z56 _ (zZ7 h0 (z26 z))).elim
  obtain⟨L,C,p1,a5⟩:=I.list (wo Q λa o _ e=>st a o e);refine zZ3 (gZ hh h1 h2 h3 Z D p1.isList (by rw[yd5,yb5];rw[C.length];exact zZ8 _) λh' h=>?_);refine z02 (hR _ ⟨H',acc,vs,e,I.turnL (λb o hb q=>h b o hb q) (λb hb=>fz b hb H' (U b hb)),st,h _ _ l N,nS,W,tr⟩)
 |succ k ih=>
  intro i s hk hi y;have m:=(zv7 hk);obtain⟨H',acc,vs,e,f0,f1,a,b,c,I,st,N,nS,U,Z,fr,W,tr⟩:=y.ex;refine yf2 PySem.F.entry_extend_loop ?_;rw[yc0 z85 _];obtain⟨L,C,p1,a5⟩:=I.list (wo Q λa o _ e=>st a o e);obtain⟨a8,a1,p2,a9⟩:=I.list (wo q2 λa o _ e=>st a o e);obtain⟨a7,a4,p3,b0⟩:=I.list (wo q3 λa o _ e=>st a o e);have gx:=zZ5 m;have gy:=zZ5 (zZ7 m (z26 e2.symm));have gz:=zZ5 (zZ7 m (z26 e3.symm));obtain⟨u,hu,ru⟩:=C.get gx;obtain⟨v,hv,a3⟩:=a1.get gy;obtain⟨w,hw,a0⟩:=a4.get gz;have t:acc.length=i:=by rw[<-W.length,tr.1]
  have M:∀b∈z3 n,b<s.heap.objs.size:=λb hb=>by
   have:∃o,s.heap.get? b=some o:=by
    simp only[z3,zZ9,z31,z57]at hb;obtain⟨o1,Q,_⟩:=Z.i1;obtain⟨o2,q2,_⟩:=Z.i2;obtain⟨o3,q3,_⟩:=Z.i3;rcases hb with rfl|rfl|rfl|rfl|rfl|rfl
    .exact⟨_,Q⟩
    .exact⟨_,q2⟩
    .exact⟨_,q3⟩
    .exact⟨_,Z.ti⟩
    .exact⟨_,Z.to⟩
    .exact⟨_,Z.z⟩
   obtain⟨o,q⟩:=this;exact z07 q
  have main:∀h' p r a' b' c',wL h' n l1 l2 l3 (i+1) p r a' b' c'->(∃(T:Nat) (ot:Obj),p=rawInt T/\h'.get? T=some ot/\T∉S::z3 n)->h'.get? s.heap.objs.size=some (tO3 u v w)->
    (∀c o,c∉z3 n->s.heap.get? c=some o->h'.get? c=some o)->Aj (Al X.prog X.w) A.in1 (updateSeq S (·.push (.ref s.heap.objs.size)) >>= λ_=>again (.builtin "list.extend.loop" ⟨[.ref S,.ref (n+5:Nat),.none],[]⟩))
     (λfin s'=>match fin with|.done f=>R (.ok f) s'|.again c'=>c'.quiet=true/\codeAny (Al X.prog X.w) A c' R s') (λe s'=>R (.error e) s') {s with heap:=h'}:=by
   intro h' p r a' b' c' j ⟨T,ot,hf,D,g⟩ E h;have nT:=I.hok.fresh (zZ8 _);have Y:H s.heap.objs.size=none:=by
    cases q:H s.heap.objs.size with
    |none=>rfl
    |some o=>rw[st _ _ q]at nT;cases nT
   have G:∀a o,H' a=some o->upd H' s.heap.objs.size (.tup [xs[i],ys[i],zs[i]]) a=some o:=λa o q=>by rw[zd (zj q nT)];exact q
   have J:=I.turnLay (t':=s.toks) (o:=.tup [xs[i],ys[i],zs[i]]) h (λb hb=>fz b hb H' (U b hb)) (zZ8 _) ⟨by show 3<=sizeLine;decide,[u,v,w],.cons ru (.cons a3 (.cons a0 .nil)),_,E,rfl,0,rfl⟩;have P:=h _ _ l N;have O:upd H' s.heap.objs.size (.tup [xs[i],ys[i],zs[i]]) S=none:=by rw[zd (z30 (z07 N))];exact nS
   obtain⟨e',a6⟩:∃e',(h'.update S (Obj.mapSeq (·.push (Value.ref s.heap.objs.size)))).get? S=some {cls:=.type "list",dict:=none,data:=.seq (acc++[Value.ref s.heap.objs.size]).toArray e',slots:=#[]}:=by
    have:=ya3 P λx=>x.push (Value.ref s.heap.objs.size);rw[List.push_toArray]at this;exact⟨_,this⟩
   refine zZ3 ?_;refine z95 P rfl (z02 ⟨yb7 z85 _,ih (i+1) _ (bz hk) m ⟨_,acc++[.ref s.heap.objs.size],vs++[.ref s.heap.objs.size],e',p,r,a',b',c',
    J.turnL (ch:=[S]) (λb o hb q=>(z35 _ _ (z42 (by simpa using hb))).trans q) (λb hb=>by rw[z06.mp hb];exact fS _ O),λa o q=>G _ _ (st a o q),a6,O,λb hb=>?_,?_,.inr ⟨T,ot,hf,?_,g⟩,W.append (.cons (show RelV (.ref s.heap.objs.size) (.ref s.heap.objs.size)from rfl) .nil),tr.snoc G gx gy gz zg Y⟩⟩)
    (by rw[z09,t,z71];lia) (by show(acc.toArray.push _).size<=sizeLine+1;rw[Array.size_push,z09,t,z71];lia)
   .rw[zd]
    .exact U b hb
    .exact z30 (M b hb)
   .have d:∀b o,b≠S->h'.get? b=some o->(h'.update S (Obj.mapSeq (·.push (Value.ref s.heap.objs.size)))).get? b=some o:=λb o hb q=>(z35 _ _ (z42 hb)).trans q;simp only[z3,zZ9,z31,z57,not_or]at l;obtain⟨d1,d2,d3,d4,d5,d6⟩:=l;exact⟨d _ _ (z42 d6) j.z,d _ _ (z42 d4) j.ti,d _ _ (z42 d5) j.to,j.i1.at λo q=>d _ o (z42 d1) q,j.i2.at λo q=>d _ o (z42 d2) q,j.i3.at λo q=>d _ o (z42 d3) q⟩
   .exact(z35 _ _ (λz=>g (by rw[<-z];exact z03))).trans D
  rcases fr with⟨_,rfl⟩|⟨T,ot,rfl,D,g⟩
  .refine zZ3 (mZ h1 h2 h3 Z p1.isList p2.isList p3.isList (by simpa using hu) (by simpa using hv) (by simpa using hw) λh' j E h=>main h' _ _ _ _ _ j ⟨s.heap.objs.size,_,rfl,E,?_⟩ E h);intro z;rcases zZ9.mp z with z|z
   .exact absurd (z07 N) (by rw[<-z];exact z56 _)
   .exact absurd (M _ z) (z56 _)
  .exact zZ3 (jk h1 h2 h3 Z D p1.isList p2.isList p3.isList (by simpa using hu) (by simpa using hv) (by simpa using hw) λh' r j E h=>main h' _ _ _ _ _ j ⟨T,ot,rfl,h _ _ (λz=>g (z01 _ z)) D,g⟩ E h)
end
def qk (a b c:Ab):checkTypeCall "zip" ⟨[a,b,c],[]⟩=pure ():=by kernel_rfl
def qx (a b c:Ab):checkBuiltinCall "zip.__new__" ⟨[.type "zip",a,b,c],[]⟩=pure ():=by kernel_rfl
def vM (a b c d:Ab):argsOk "object.__init__" ⟨[a,b,c,d],[]⟩:=by unfold argsOk;rw[signature?_of (n:=['_','_','t','i','n','i','_','_']) (by kernel_rfl) PySem.F.owner_object];kernel_rfl
def lq :typeLookup (.type "zip") "__len__"=pure none:=by rw[yj1,yd6];kernel_rfl
def md :typeLookup (.type "zip") "__length_hint__"=pure none:=by rw[yj1,yd6];kernel_rfl
noncomputable abbrev itO (l:Ae):Obj:={cls:=.type "list_iterator",data:=.fields #[.ref l,.int 0 0]}
noncomputable abbrev zh3 (h:Ao)(l1 l2 l3:Ae):Ao:=((h.push (itO l1)).push (itO l2)).push (itO l3)
noncomputable abbrev zh4 (h:Ao)(l1 l2 l3:Ae):Ao:=(zh3 h l1 l2 l3).push (tO3 (.ref h.objs.size) (.ref (h.push (itO l1)).objs.size) (.ref ((h.push (itO l1)).push (itO l2)).objs.size))
noncomputable abbrev zh5 (h:Ao)(l1 l2 l3:Ae):Ao:=(zh4 h l1 l2 l3).push (tO3 .none .none .none)
noncomputable abbrev zh6 (h:Ao)(l1 l2 l3:Ae):Ao:=(zh5 h l1 l2 l3).push (zO .none (.bool false) (zh3 h l1 l2 l3).objs.size (zh4 h l1 l2 l3).objs.size)
def sy (l1 l2 l3:Ae)(xs ys zs:Array Ab):
  Meets (Builtin.«zip.__new__» ⟨[.type "zip",.ref l1,.ref l2,.ref l3],[]⟩) (λ_ R s=>s.heap.IsList l1 xs/\s.heap.IsList l2 ys/\s.heap.IsList l3 zs/\
   R (.ok (.ret (.ref (zh5 s.heap l1 l2 l3).objs.size))) {s with heap:=zh6 s.heap l1 l2 l3}):=
 .of_wp λprog w A R s h=>by
  obtain⟨i,g,d,k,os⟩:=s;obtain⟨a,b,c,h⟩:=h;have j:=sub_zip;have e:Heap.IsList (Shared.heap ⟨i.push {cls:=.type "list_iterator",data:=.fields #[.ref l1,.int 0 0]},g,d,k,os⟩) l2 ys:=Heap.IsList.push b _;have f:Heap.IsList (Shared.heap ⟨(i.push {cls:=.type "list_iterator",data:=.fields #[.ref l1,.int 0 0]}).push {cls:=.type "list_iterator",data:=.fields #[.ref l2,.int 0 0]},g,d,k,os⟩) l3 zs:=Heap.IsList.push (Heap.IsList.push c _) _
  wp_walk using z93 a,z93 e,z93 f
  exact⟨_,rfl,h⟩
section
variable {prog:Ag}{w:Ai}{A:Am}{E:Ab->Ad->Prop}{s:Ad}
def lV {l1 l2 l3:Ae}{xs ys zs:Array Ab}{Q:Ab->Ad->Prop}(b:s.heap.IsList l1 xs)(e:s.heap.IsList l2 ys)(f:s.heap.IsList l3 zs)
  (h:∀h',wL h' s.heap.objs.size l1 l2 l3 0 .none (.bool false) .none .none .none->h'.objs.size=s.heap.objs.size+6->(∀c o,s.heap.get? c=some o->h'.get? c=some o)->Q (.ref (s.heap.objs.size+5)) {s with heap:=h'}):
  Aj (Al prog w) A (call (.type "zip") [.ref l1,.ref l2,.ref l3]) Q E s:=by
 refine callType_new PySem.F.called_zip (by decide) (qk _ _ _) (qx _ _ _) (λobj=>vM obj _ _ _) PySem.F.entry_zip_new
  (sy l1 l2 l3 xs ys zs) ⟨b,e,f,?_⟩
 have j:(s.heap.push (itO l1)).objs.size=s.heap.objs.size+1:=z81 ..;have i:((s.heap.push (itO l1)).push (itO l2)).objs.size=s.heap.objs.size+2:=by rw[z81,j]
 have a:(zh3 s.heap l1 l2 l3).objs.size=s.heap.objs.size+3:=by rw[z81,i]
 have g:(zh4 s.heap l1 l2 l3).objs.size=s.heap.objs.size+4:=by rw[z81,a]
 have d:(zh5 s.heap l1 l2 l3).objs.size=s.heap.objs.size+5:=by rw[z81,g]
 have n:(zh6 s.heap l1 l2 l3).objs.size=s.heap.objs.size+6:=by rw[z81,d]
 have k:(zh6 s.heap l1 l2 l3).get? (zh5 s.heap l1 l2 l3).objs.size=some _:=z08 _ rfl;have l:(zh6 s.heap l1 l2 l3).get? (zh4 s.heap l1 l2 l3).objs.size=some _:=zZ4 _ (z08 _ rfl);have m:(zh6 s.heap l1 l2 l3).get? (zh3 s.heap l1 l2 l3).objs.size=some _:=zZ4 _ (zZ4 _ (z08 _ rfl));have g3:(zh6 s.heap l1 l2 l3).get? ((s.heap.push (itO l1)).push (itO l2)).objs.size=some _:=zZ4 _ (zZ4 _ (zZ4 _ (z08 _ rfl)));have g2:(zh6 s.heap l1 l2 l3).get? (s.heap.push (itO l1)).objs.size=some _:=zZ4 _ (zZ4 _ (zZ4 _ (zZ4 _ (z08 _ rfl))));have g1:(zh6 s.heap l1 l2 l3).get? s.heap.objs.size=some _:=zZ4 _ (zZ4 _ (zZ4 _ (zZ4 _ (zZ4 _ (z08 _ rfl)))));rw[d,g,a]at k;rw[g]at l;rw[a,i,j]at m;rw[i]at g3;rw[j]at g2;rw[d];exact⟨⟨_,k,rfl⟩,h _ ⟨k,m,l,⟨_,g1,rfl,rfl⟩,⟨_,g2,rfl,rfl⟩,⟨_,g3,rfl,rfl⟩⟩ n λc o x=>
  zZ4 _ (zZ4 _ (zZ4 _ (zZ4 _ (zZ4 _ (zZ4 _ x)))))⟩
end
section
variable {X:Cx}{pins:List (Ae×Obj)}{B:St}{H:Hp}{s:Ad}
noncomputable def fL {A:Am}{R:Result->Ad->Prop}{n l1 l2 l3:Nat}{S:Ae}{xs ys zs:List V}(Y:A.handled=none)(h1:l1<n)(h2:l2<n)(h3:l3<n)(I:Inv X pins B H s)(Z:wL s.heap n l1 l2 l3 0 .none (.bool false) .none .none .none)(v:s.heap.get? S=some {cls:=.type "list",data:=.seq #[]})
  (L:H S=none) (P:∀b∈z3 n,H b=none) (y:∀H',H' S=none->xg X pins H' S) (fz:∀b∈z3 n,∀H',H' b=none->xg X pins H' b) (r:S∉z3 n)
  (O:SqL X.K H l1 xs) (Q:SqL X.K H l2 ys) (q3:SqL X.K H l3 zs) (T:ys.length=xs.length) (e3:zs.length=xs.length) (h0:0<xs.length) (hN:xs.length<=1000)
  (U:∀s',zG7 X pins B H S xs ys zs s'->R (.ok (.ret .none)) s'):
  Aj (Al X.prog X.w) A.in1 (Builtin.«list.__init__» ⟨[.ref S,.ref (n+5:Nat)],[]⟩)
   (λfin s'=>match fin with|.done f=>R (.ok f) s'|.again c'=>c'.quiet=true/\codeAny (Al X.prog X.w) A c' R s') (λe s'=>R (.error e) s') s:=by
 have i:=r;simp only[z3,zZ9,z31,z57,not_or]at i;obtain⟨J,D,E,G,C,u⟩:=i;show Aj _ _ (do let old <-Builtin.List.listItems (.ref S);Builtin.List.listUpdate (.ref S) (λ_=>#[]);letGo old.toList.reverse;Builtin.List.listExtendWith (.ref S) (.ref (n+5:Nat)) .none) _ _ s;refine zZ3 ?_;unfold Builtin.List.listItems;refine zZ3 (z76 v rfl (z02 ?_));refine zZ3 (z95 v rfl ?_);obtain⟨m,d⟩:∃m,(s.heap.update S (Obj.mapSeq (λ_=>(#[]:Array Ab)))).get? S=some {cls:=.type "list",dict:=none,data:=.seq #[] m,slots:=#[]}:=⟨_,ya3 v λ_=>#[]⟩;have c:∀b o,b≠S->s.heap.get? b=some o->(s.heap.update S (Obj.mapSeq (λ_=>(#[]:Array Ab)))).get? b=some o:=
  λb o hb e=>(z35 _ _ (z42 hb)).trans e
 have p:wL (s.heap.update S (Obj.mapSeq (λ_=>(#[]:Array Ab)))) n l1 l2 l3 0 .none (.bool false) .none .none .none:=⟨c _ _ (z42 u) Z.z,c _ _ (z42 G) Z.ti,c _ _ (z42 C) Z.to,Z.i1.at λo q=>c _ o (z42 J) q,Z.i2.at λo q=>c _ o (z42 D) q,Z.i3.at λo q=>c _ o (z42 E) q⟩;refine zZ3 (yb0 ?_);have l:({s with heap:=s.heap.update S (Obj.mapSeq (λ_=>(#[]:Array Ab)))}:Ad).TypeIs (.ref (n+5:Nat)) "zip":=⟨_,p.z,rfl⟩;unfold Builtin.List.listExtendWith;refine zZ3 (wpAny_typeOf l ?_);have b1:Builtin.List.listSameRef (.ref S) (.ref (n+5:Nat))=false:=by simp[Builtin.List.listSameRef];exact u
 have N:(Value.type "zip" == Value.type "list")=false:=by decide
 have b3:(Value.type "zip" == Value.type "tuple")=false:=by decide
 simp only[b1,N,b3,ye3,z52,z87];refine zZ3 (wpAny_pyIter_slot l PySem.F.slot_zip_iter (yd9 PySem.F.slot_zip_iter l PySem.F.entry_zip_iter ?_ (PySem.F.args_zip_iter_1 _)));refine z02 ⟨_,rfl,"zip",_,l,z86.lookup,zZ3 (z72 ?_)⟩;unfold Builtin.List.listLengthHint;refine zZ3 (yf0 l lq ?_);refine zZ3 (yf0 l md (z02 ?_));have key:∀(h:Ao) (e:Nat),h.get? S=some {cls:=.type "list",dict:=none,data:=.seq #[] e,slots:=#[]}->(∀b o,b≠S->s.heap.get? b=some o->h.get? b=some o)->codeAny (Al X.prog X.w) A (.builtin "list.extend.loop" ⟨[.ref S,.ref (n+5:Nat),.none],[]⟩) R {s with heap:=h}:=by
  intro h e t a;refine gk Y h1 h2 h3 y fz r O Q q3 T e3 h0 hN U xs.length 0 _ (by lia) (z21 _) ⟨H,[],[],e,.none,.bool false,.none,.none,.none,I.turnL (ch:=[S]) (λb o hb q=>a b o (by simpa using hb) q) (λb hb=>by rw[z06.mp hb];exact y H L),λ_ _ e=>e,t,L,P,?_,.inl ⟨rfl,rfl⟩,.nil,rfl,λj hj=>absurd hj (Nat.not_lt_zero _)⟩;exact⟨a _ _ (z42 u) Z.z,a _ _ (z42 G) Z.ti,a _ _ (z42 C) Z.to,Z.i1.at λo q=>a _ o (z42 J) q,Z.i2.at λo q=>a _ o (z42 D) q,Z.i3.at λo q=>a _ o (z42 E) q⟩
 refine yc6 (λ_=>zZ3 (wpAny_rule ?_)) (λ_=>z02 ⟨yb7 z85 _,key _ _ d c⟩);refine zZ3 ?_;refine zZ3 (z95 d rfl ?_);obtain⟨M,g⟩:∃m,((s.heap.update S (Obj.mapSeq (λ_=>(#[]:Array Ab)))).update S (Obj.mapSeq (·.push Value.none))).get? S=some {cls:=.type "list",dict:=none,data:=.seq #[.none] m,slots:=#[]}:=⟨_,ya3 d λx=>x.push Value.none⟩;refine z95 g rfl ?_;obtain⟨W,k⟩:∃m,(((s.heap.update S (Obj.mapSeq (λ_=>(#[]:Array Ab)))).update S (Obj.mapSeq (·.push Value.none))).update S (Obj.mapSeq (·.pop))).get? S=some {cls:=.type "list",dict:=none,data:=.seq #[] m,slots:=#[]}:=⟨_,ya3 g λx=>x.pop⟩;exact z02 ⟨yb7 z85 _,key _ _ k λb o hb e=>(z35 _ _ (z42 hb)).trans ((z35 _ _ (z42 hb)).trans (c b o hb e))⟩
end
section
variable {X:Cx}{pins:List (Ae×Obj)}{B:St}{H:Hp}{s:Ad}
def rQ {A:Am}{E:Ab->Ad->Prop}{Q:Ab->Ad->Prop}{n l1 l2 l3:Nat}{xs ys zs:List V}(p:A.handled=none)(h1:l1<n)(h2:l2<n)(h3:l3<n)(I:Inv X pins B H s)(Z:wL s.heap n l1 l2 l3 0 .none (.bool false) .none .none .none)
  (l:∀b∈z3 n,H b=none) (fz:∀b∈z3 n,∀H',H' b=none->xg X pins H' b)
  (d:SqL X.K H l1 xs) (f:SqL X.K H l2 ys) (i:SqL X.K H l3 zs) (m:ys.length=xs.length) (r:zs.length=xs.length) (h0:0<xs.length) (t:xs.length<=1000)
  (v:∀D s',s.heap.objs.size<=D->zG7 X pins B H D xs ys zs s'->(∀H',H' D=none->xg X pins H' D)->Q (.ref D) s'):
  Aj (Al X.prog X.w) A (call (.type "list") [.ref (n+5:Nat)]) Q E s:=by
 refine callType_codes (Q₁:=λobj a=>obj=.ref s.heap.objs.size/\a={s with heap:=s.heap.push {cls:=.type "list",data:=.seq #[]}}) PySem.F.called_list (PySem.F.typeCall_list_1 _) PySem.F.entry_list_init
  (code_list_new _ ⟨rfl,rfl⟩) λobj a c=>?_
 obtain⟨rfl,rfl⟩:=c;have k:(s.heap.push {cls:=.type "list",data:=.seq #[]}).get? s.heap.objs.size=some {cls:=.type "list",data:=.seq #[]}:=z08 _ rfl;have up:∀b o,s.heap.get? b=some o->(s.heap.push {cls:=.type "list",data:=.seq #[]}).get? b=some o:=λb o e=>zZ4 _ e;have j:∀H':Hp,H' s.heap.objs.size=none->xg X pins H' s.heap.objs.size:=λH' h=>I.fpOk (zZ8 _) h;have g:s.heap.objs.size∉z3 n:=λhb=>by
  have:∃o,s.heap.get? s.heap.objs.size=some o:=by
   simp only[z3,zZ9,z31,z57]at hb;obtain⟨y,d,_⟩:=Z.i1;obtain⟨x,f,_⟩:=Z.i2;obtain⟨C,i,_⟩:=Z.i3;rcases hb with z|z|z|z|z|z<;>rw[z]
   .exact⟨_,d⟩
   .exact⟨_,f⟩
   .exact⟨_,i⟩
   .exact⟨_,Z.ti⟩
   .exact⟨_,Z.to⟩
   .exact⟨_,Z.z⟩
  obtain⟨o,q⟩:=this;exact absurd (z07 q) (z56 _)
 refine⟨⟨_,k,rfl⟩,PySem.F.args_list_init_2 _ _,fL p h1 h2 h3 (I.kept up) ⟨up _ _ Z.z,up _ _ Z.ti,up _ _ Z.to,Z.i1.at λo q=>up _ o q,Z.i2.at λo q=>up _ o q,Z.i3.at λo q=>up _ o q⟩ k (I.hok.fresh (zZ8 _)) l j fz g d f i m r h0 t λs' u=>⟨rfl,v _ s' (zZ8 _) u j⟩⟩
variable {a b c:Ak}{p p0 pos pos2:Pos}
def ny {R:TA}(hc:X.calm=true)(hgl:Gl X "list")(A:X.mg "list"=none)(hg:Gl X "zip")(hm:X.mg "zip"=none)(ha:PA X [a,b,c] R)
  (r:Af [.Call (.Name "zip" p) [a,b,c] [] pos2] X.env=[(false,eval (.Call (.Name "zip" p) [a,b,c] [] pos2) X.env)]:=by rfl)
  (W:Af [a,b,c] X.env=(false,eval a X.env)::Af [b,c] X.env:=by rfl) (hpl:(backTo pos2 (Af [b,c] X.env)).any (·.1)=false:=by rfl):
  PE X (.Call (.Name "list" p0) [.Call (.Name "zip" p) [a,b,c] [] pos2] [] pos) (λB H Q=>R B H λvs H1=>∃(l1 l2 l3:Ae) (xs ys zs:List V),vs=[.ref l1,.ref l2,.ref l3]/\SqL X.K H1 l1 xs/\SqL X.K H1 l2 ys/\SqL X.K H1 l3 zs/\ys.length=xs.length/\zs.length=xs.length/\0<xs.length/\xs.length<=1000/\
   ∀D H' vs,H1 D=none->(∀a o,H1 a=some o->H' a=some o)->H' D=some (.lst vs)->(∃j,(∀a o,j a=some o->a≠D/\H' a=some o)/\Tri H1 j xs ys zs vs xs.length)->Q (.ref D) H'):=by
 intro pins s B H Q I h;refine Call_ (yR I hgl A boot_list (z45 ?_ r rfl));rw[r];refine Calls.spliced_cons ?_;refine Call_ (yR I hg hm boot_zip (z45 (thn (ha pos2 pins s B H _ I h) λus s1 C=>?_) W hpl));obtain⟨vs,H1,f,d,S⟩:=C;obtain⟨l1,l2,l3,xs,ys,zs,e,l,m,i,U,Y,h0,O,q⟩:=S;subst e;obtain⟨u,v,w,rfl,ru,rv,y⟩:∃u v w,us=[u,v,w]/\RelV (.ref l1) u/\RelV (.ref l2) v/\RelV (.ref l3) w:=by
  cases d with
  |cons a d=>
   cases d with
   |cons b d=>
    cases d with
    |cons c d=>
     cases d;exact⟨_,_,_,rfl,a,b,c⟩
 cases(ru);cases(rv);cases(y);obtain⟨J,a5,p1,a3⟩:=f.list l;obtain⟨N,a0,p2,a1⟩:=f.list m;obtain⟨M,a2,p3,a4⟩:=f.list i;refine lV p1.isList p2.isList p3.isList λh' Z sz hk=>?_;have F:l1<s1.heap.objs.size:=by obtain⟨o,e,_⟩:=p1.isList;exact z07 e
 have G:l2<s1.heap.objs.size:=by obtain⟨o,e,_⟩:=p2.isList;exact z07 e
 have x:l3<s1.heap.objs.size:=by obtain⟨o,e,_⟩:=p3.isList;exact z07 e
 have le:∀b∈z3 s1.heap.objs.size,s1.heap.objs.size<=b:=λb hb=>by
  simp only[z3,zZ9,z31,z57]at hb;have key:∀n b:Nat,(b=n\/b=n+1\/b=n+2\/b=n+3\/b=n+4\/b=n+5)->n<=b:=λn b h=>by lia
  exact key _ _ hb
 have L:Inv X pins B H1 {s1 with heap:=h',toks:=s1.toks}:=f.kept λb o e=>hk b o e;refine z60 (show Aj _ _ (spliced []) (λvs t=>vs=[]/\t={s1 with heap:=h'}) X.xe {s1 with heap:=h'}from z02 ⟨rfl,rfl⟩) (λvs s2 hv=>?_) λ_ _ z=>z;obtain⟨rfl,rfl⟩:=hv;refine rQ (I.ok.hd hc) F G x L Z (λb hb=>f.hok.fresh (le b hb)) (λb hb H' hn=>f.fpOk (le b hb) hn) l m i U Y h0 O λD s' lD ze fD=>?_;obtain⟨H',acc,vs,e,T,st,hD,P,E,g⟩:=ze.ex;have k:∀a o,H' a=some o->a≠D/\upd H' D (.lst vs) a=some o:=λa o q=>by
  have n:a≠D:=λz=>by rw[z,P]at q;cases q
  exact⟨n,by rw[zd n];exact q⟩
 refine⟨.ref D,upd H' D (.lst vs),T.adopt (fD H' P) ⟨?_,acc,e,E,hD⟩,rfl,q D _ vs (L.hok.fresh lD) (λa o q=>(k a o (st a o q)).2) zg ⟨H',k,g⟩⟩;rw[g.1,z71];exact zS8 O
end
def zh7 (a b c:Aa):Aa:=.tuple [a,b,c]
noncomputable def wj :List Aa->List Aa->List Aa->List Aa
 |a::as,b::bs,c::cs=>zh7 a b c::wj as bs cs
 |_,_,_=>[]
theorem uR :∀{as bs cs:List Aa},bs.length=as.length->cs.length=as.length->(wj as bs cs).length=as.length
 |[],_,_,_,_=>rfl
 |a::as,b::bs,c::cs,h1,h2=>by rw[wj,z28,z28,uR (by simpa using h1) (by simpa using h2)]
theorem uL :∀{as bs cs:List Aa}{j:Nat}{d:Aa},(wj as bs cs)[j]?=some d->∃a b c,as[j]?=some a/\bs[j]?=some b/\cs[j]?=some c/\d=zh7 a b c
 |[],_,_,j,d,h=>by simp[wj]at h
 |a::as,[],_,j,d,h=>by simp[wj]at h
 |a::as,b::bs,[],j,d,h=>by simp[wj]at h
 |a::as,b::bs,c::cs,0,d,h=>by simp[wj]at h;exact⟨a,b,c,rfl,rfl,rfl,h.symm⟩
 |a::as,b::bs,c::cs,j+1,d,h=>by
  obtain⟨x,y,z,e1,g,e,f⟩:=uL (by simpa[wj]using h);exact⟨x,y,z,by simpa using e1,by simpa using g,by simpa using e,f⟩
theorem ig {G:Hp}:∀{vs:List V}{ds:List Aa},vs.length=ds.length->(∀(j:Nat) d,ds[j]?=some d->∃v,vs[j]?=some v/\AV G v d)->AVs G vs ds
 |[],[],_,_=>.nil
 |v::vs,d::ds,b,h=>by
  obtain⟨c,e,a⟩:=h 0 d rfl;cases e;exact .cons a (ig (by simpa using b) λj d' hd=>h (j+1) d' (by simpa using hd))
section
variable {X:Cx}{L:Ev}{a b c:Ak}{p p0 pos pos2:Pos}
theorem nN {Q:List Aa->Prop}(hc:X.calm=true)(hgl:Gl X "list")(u:X.mg "list"=none)(hg:Gl X "zip")(hm:X.mg "zip"=none)
  (h:EvA X L [a,b,c] λas=>∃ds n fs,as=[.dat (.list ds),.dat (.list n),.dat (.list fs)]/\n.length=ds.length/\fs.length=ds.length/\0<ds.length/\ds.length<=1000/\Q (wj ds n fs))
  (w:Af [.Call (.Name "zip" p) [a,b,c] [] pos2] X.env=[(false,eval (.Call (.Name "zip" p) [a,b,c] [] pos2) X.env)]:=by rfl)
  (T:Af [a,b,c] X.env=(false,eval a X.env)::Af [b,c] X.env:=by rfl) (hpl:(backTo pos2 (Af [b,c] X.env)).any (·.1)=false:=by rfl):
  EvL X L (.Call (.Name "list" p0) [.Call (.Name "zip" p) [a,b,c] [] pos2] [] pos) Q:=λF B H R m k=>by
 refine⟨_,ny hc hgl u hg hm yD w T hpl,h F B H _ m λas vs H1 N t1 r f=>?_⟩;have m1:=m.kz r t1;obtain⟨ds,n,fs,rfl,l2,l3,Y,lN,q⟩:=N;cases f with
 |cons r1 f=>
  cases f with
  |cons V f=>
   cases f with
   |cons r3 f=>
    cases f;obtain⟨a1,xs,rfl,g1,I⟩:=AV.lst_inv r1;obtain⟨a2,ys,rfl,g2,A⟩:=AV.lst_inv V;obtain⟨a3,zs,rfl,g3,C⟩:=AV.lst_inv r3;have g:=I.length;refine⟨a1,a2,a3,xs,ys,zs,rfl,SqL.of (zc g1).2,SqL.of (zc g2).2,SqL.of (zc g3).2,(A.length.trans (l2.trans g.symm)),(C.length.trans (l3.trans g.symm)),(zZ7 Y (z26 g.symm)),(z05 (z26 g) lN),λD H' vs l st v tr=>?_⟩;obtain⟨Z,sb,i⟩:=tr;have G:zz H1 H':=λa o e=>st a o e;refine k _ _ H' q (t1.same G) (r.trans (Kz.of_same G)) ⟨D,vs,rfl,?_,v,?_⟩
    .cases z:H D with
     |none=>rfl
     |some o=>rw[r D o z (m.tp.nt (ow0 (m1.fresh l)))]at l;cases l
    .have s:zz (Gz F L B H1) (sub (λx=>¬Ow F L B x/\x≠D) H'):=zq λa o h e=>⟨⟨h,zj e l⟩,st a o e⟩;refine ig (by rw[i.1,uR l2 l3];exact g) λj d hd=>?_;obtain⟨d1,d2,d3,e1,P,U,rfl⟩:=uL hd;have hj:j<xs.length:=by rw[g];exact(zZ6.mp e1).1
     obtain⟨t,x,y,z,f1,f2,f3,f4,S,f6⟩:=i.2 j hj;obtain⟨x',ex,K⟩:=I.get e1;obtain⟨y',E,O⟩:=A.get P;obtain⟨z',J,M⟩:=C.get U;rw[f2]at ex;cases ex;rw[f3]at E;cases E;rw[f4]at J;cases J;obtain⟨nt,W⟩:=sb t _ S;exact⟨_,f1,.tup (zy ⟨m1.fresh f6,nt⟩ W) (.cons (K.same s) (.cons (O.same s) (.cons (M.same s) .nil)))⟩
theorem lR {ns:List Int}{d:List Ab}(h:Vals (ns.map V.int) d):∃ps:List (Int×Tok),d=ps.map (λp=>Value.int p.1 p.2)/\ps.map (·.1)=ns:=by
 induction ns generalizing d with
 |nil=>cases h;exact⟨[],rfl,rfl⟩
 |cons n ns g=>cases h with
  |cons h e=>
   obtain⟨ps,e1,f⟩:=g e;obtain⟨t,rfl⟩:=h;exact⟨(n,t)::ps,by rw[e1];rfl,by rw[<-f];rfl⟩
def qm (ps:List (Int×Tok))(k:Nat):numAt ps.toArray k=(ps.map (·.1)).getD k 0:=by
 unfold numAt;rw[yd5,z00,z04]
theorem wR (ps:List (Int×Tok)):∀k,k<=ps.length->preSum (numAt ps.toArray) k=((ps.map (·.1)).take k).sum
 |0,_=>by simp[preSum]
 |k+1,h=>by
  have hk:k<(ps.map (·.1)).length:=by rw[zZ2];exact zZ7 (z64 _) h
  rw[preSum,wR ps k (z05 (z23 _ _) h),qm,z75,zZ5 hk,List.sum_append,z00,zZ5 hk];simp
def Fits (ns:List Int):Prop:=∀k,k<=ns.length->-(2 ^ 62)<=(ns.take k).sum/\(ns.take k).sum<2 ^ 62
def eu (g:X.calm=true):yt X (.builtin "sum") (λxs H Q=>∃(l:Ae) (ns:List Int),xs=[.ref l]/\SqL X.K H l (ns.map V.int)/\(∀n∈ns,-(2 ^ 62)<=n/\n<2 ^ 62)/\Fits ns/\Q (.int ns.sum) H):=by
 intro pins s B H xs us Q I r h;obtain⟨l,ns,rfl,f,hb,hf,q⟩:=h;obtain⟨u,rfl,o⟩:=Vals.one r;cases(o);obtain⟨k,i,p,t⟩:=I.list f;obtain⟨ps,rfl,rfl⟩:=lR i;have e:s.heap.IsList l (intItems ps.toArray):=by
  have:=p.isList
  rwa [show intItems ps.toArray=(ps.map λp=>Value.int p.1 p.2).toArray by simp[intItems]]
 refine sum_intList (I.ok.hd g) e (λj m=>?_) λh' v t' hk=>?_
 .have d:j<ps.length:=by simpa using m
  have hk:j<(ps.map (·.1)).length:=by rw[zZ2];exact d
  rw[wR ps (j+1) (d),qm,z00,zZ5 hk];have h1:=hb _ (z69 hk);have h2:=hf (j+1) (hk);refine⟨⟨?_,?_⟩,?_,?_⟩
  .show -(2 ^ 63)<=(ps.map (·.1))[j];exact zx9 h1.1
  .show(ps.map (·.1))[j]<2 ^ 63;exact zu0 h1.2
  .exact zx9 h2.1
  .exact zu0 h2.2
 .rw[show preSum (numAt ps.toArray) ps.toArray.size=(ps.map (·.1)).sum by rw[z09,wR ps ps.length (zZ8 _),<-zZ2,z80]];exact⟨.int _,H,I.kept hk,⟨_,rfl⟩,q⟩
def og {Q:Aa->Prop}{e:Ak}(f:X.calm=true)(hg:Gl X "sum")(hm:X.mg "sum"=none)(h:EvD X L e λx=>∃ns:List Int,x=.list (ns.map .int)/\(∀n∈ns,-(2 ^ 62)<=n/\n<2 ^ 62)/\Fits ns/\Q (.int ns.sum))(he:Af [e] X.env=(false,eval e X.env)::Af [] X.env:=by rfl):
  EvD X L (.Call (.Name "sum" p) [e] [] pos) Q:=by
 refine xy (eu f) hg hm boot_sum (zk (h.imp λx d=>?_) he) (he:=he);obtain⟨ns,e1,hb,hf,q⟩:=d;refine zA ?_;intro F B H vs R m g k;subst e1;obtain⟨v,rfl,av⟩:=g.one;obtain⟨a,xs,rfl,h1,h2⟩:=av.lst_inv;cases h2.ints;exact⟨a,ns,rfl,SqL.of (zc h1).2,hb,hf,k _ _ H q m.tp Kz.refl (.int _)⟩
end
noncomputable def yQ :List Int->List Bool->List Int
 |z::zs,b::bs=>if b=true then yQ zs bs else z::yQ zs bs
 |_,_=>[]
theorem vm :∀{zs:List Int}{bs:List Bool}{z:Int},z∈yQ zs bs->z∈zs
 |[],_,z,h=>by simp[yQ]at h
 |y::zs,[],z,h=>by simp[yQ]at h
 |y::zs,b::bs,z,h=>by
  rw[yQ]at h;split at h
  .exact z01 _ (vm h)
  .rcases zZ9.mp h with e|h
   .rw[e];exact z03
   .exact z01 _ (vm h)
theorem uK :∀(zs:List Int) (bs:List Bool),(yQ zs bs).length<=zs.length
 |[],_=>by simp[yQ]
 |y::zs,[]=>by simp[yQ]
 |y::zs,b::bs=>by
  rw[yQ];have:=uK zs bs;split
  .rw[z28];exact z05 this (z23 _ _)
  .rw[z28,z28];exact Nat.add_le_add this (zZ8 _)
theorem sum_bound :∀{ns:List Int}{m:Int},0<=m->(∀n∈ns,0<=n/\n<=m)->0<=ns.sum/\ns.sum<=ns.length*m
 |[],m,_,_=>by simp
 |n::ns,m,h0,h=>by
  obtain⟨a,b⟩:=sum_bound h0 λx c=>h x (z01 _ c);have:=h n z03;rw[ye5,z28,yj2,Int.add_mul]
  constructor
  .exact Int.add_nonneg this.1 a
  .simp;exact zW3 this.2 b
def kd {ns:List Int}(h:∀n∈ns,0<=n/\n<=1000000000000)(c:ns.length<=1000):Fits ns:=λk hk=>by
 obtain⟨a,b⟩:=sum_bound (ns:=ns.take k) (by decide) λn hn=>h n (z91 hn);have:((ns.take k).length:Int)*1000000000000<=1000*1000000000000:=by
  apply Int.mul_le_mul_of_nonneg_right _ (by decide);rw[z49];exact zS0 c
 lia
noncomputable def zA5 (p:Nat):Aa->Aa
 |.tuple [a,b,c]=>if p=1 then b else c
 |_=>.none
noncomputable def tT :Aa->Bool
 |.tuple [_,_,.bool b]=>b
 |_=>false
theorem sO :∀{ds:List Aa}{zs:List Int}{bs:List Bool},zs.length=ds.length->bs.length=ds.length->((wj ds (zs.map .int) (bs.map .bool)).filter λd=>!tT d).map (zA5 1)=(yQ zs bs).map .int
 |[],[],[],_,_=>rfl
 |d::ds,z::zs,b::bs,h1,h2=>by
  have a:=sO (by simpa using h1) (by simpa using h2);rw[z27,z27,wj,yQ,ye1];cases b with
  |true=>simpa[tT,zh7]using a
  |false=>simp[tT,zh7,zA5];exact a
def wI (d:Aa)(zs:List Int)(bs:List Bool):Prop:=(d=.none/\bs=List.replicate zs.length false)\/∃many free:Nat,d=.tuple [.int many,.int free]/\tI zs many free zs.length bs
def wI.len {d:Aa}{zs:List Int}{bs:List Bool}(h:wI d zs bs):bs.length=zs.length:=by
 rcases h with⟨_,rfl⟩|⟨_,_,_,h⟩
 .simp
 .exact h.1
def zb0 (d:Aa):Prop:=d=.none\/∃many free:Nat,d=.tuple [.int many,.int free]/\0<free/\free<many/\many<64
def nu {many free:Nat}{zs:List Int}{bs:List Bool}(h:wI (.tuple [.int many,.int free]) zs bs):tI zs many free zs.length bs:=by
 rcases h with⟨h,_⟩|⟨b,a,h,mk⟩
 .cases h
 .injection h with h;injection h with h1 h2;injection h2 with h2 _;injection h1 with h1;injection h2 with h2;rw[((zy0 h1)),((zy0 h2))]at mk;exact mk
section
variable {κ:Type}[DecidableEq κ]
noncomputable def uJ (kvs:List (κ×V))(k:κ):Option V:=(kvs.find? λa=>decide (a.1=k)).map (·.2)
noncomputable def putK (kvs:List (κ×V))(k:κ)(v:V):List (κ×V):=
 if(kvs.any λa=>decide (a.1=k))=true then kvs.map (λa=>if a.1=k then(a.1,v)else a)else kvs++[(k,v)]
def uh {p:κ×V}{r:List (κ×V)}{k:κ}(e:p.1=k):uJ (p::r) k=some p.2:=by simp[uJ,z84,e]
def vh {p:κ×V}{r:List (κ×V)}{k:κ}(e:¬p.1=k):uJ (p::r) k=uJ r k:=by simp[uJ,z84,e]
theorem sM (k:κ):∀kvs:List (κ×V),(kvs.any λa=>decide (a.1=k))=(uJ kvs k).isSome
 |[]=>rfl
 |p::r=>by
  rw[z97];by_cases e:p.1=k
  .simp only[uh e,z39 e,Bool.true_or,Option.isSome_some]
  .rw[vh e,z38 e,yk3];exact sM k r
def wN (kvs:List (κ×V))(k:κ)(v:V):(putK kvs k v).length<=kvs.length+1:=by
 unfold putK;split
 .rw[zZ2];exact z23 _ _
 .rw[z24,z28,yf3];lia
theorem vN.isSome_eq {o:Option V}{u:Option Ab}(r:vN o u):o.isSome=u.isSome:=by
 cases o with
 |none=>cases u with
  |none=>rfl
  |some _=>exact(r).elim
 |some _=>cases u with
  |none=>exact(r).elim
  |some _=>rfl
theorem KV.val {kvs:List (κ×V)}{vs:List (κ×Ab)}(r:KV kvs vs)(k:κ):vN (uJ kvs k) (valueAt vs k):=by
 unfold KV at r
 induction r with
 |nil=>exact True.intro
 |@cons p q ps qs h t ih=>
  obtain⟨h1,h2⟩:=h;by_cases e:p.1=k
  .have a:=h1.symm.trans e;have b:valueAt (q::qs) k=some q.2:=by simp[valueAt,z84,a]
   rw[uh e,b];exact h2
  .have a:¬q.1=k:=λz=>e (h1.trans z);have b:valueAt (q::qs) k=valueAt qs k:=by simp[valueAt,z84,a]
   rw[vh e,b];exact ih
theorem KV.any {kvs:List (κ×V)}{vs:List (κ×Ab)}(r:KV kvs vs)(k:κ):(kvs.any λa=>decide (a.1=k))=vs.any λa=>decide (a.1=k):=by
 unfold KV at r
 induction r with
 |nil=>rfl
 |cons h t b=>rw[z97,z97,b,h.1]
theorem KV.repl {kvs:List (κ×V)}{vs:List (κ×Ab)}(r:KV kvs vs)(k:κ){y:V}{u:Ab}(b:RelV y u):
  KV (kvs.map λa=>if a.1=k then(a.1,y)else a) (vs.map λa=>if a.1=k then(a.1,u)else a):=by
 unfold KV at r ⊢
 induction r with
 |nil=>exact .nil
 |@cons p q ps qs h t ih=>
  rw[z27,z27];refine .cons ?_ ih;obtain⟨h1,h2⟩:=h;by_cases e:p.1=k
  .rw[if_pos e,if_pos (h1.symm.trans e)];exact⟨h1,b⟩
  .rw[if_neg e,if_neg (λz=>e (h1.trans z))];exact⟨h1,h2⟩
def KV.put {kvs:List (κ×V)}{vs:List (κ×Ab)}(r:KV kvs vs)(k:κ){y:V}{u:Ab}(a:RelV y u):KV (putK kvs k y) (stored vs k u):=by
 unfold putK stored;rw[r.any k];by_cases e:(vs.any λb=>decide (b.1=k))=true
 .rw[if_pos e,if_pos e];exact r.repl k a
 .rw[if_neg e,if_neg e];exact Paired.snoc r ⟨rfl,a⟩
theorem KV.length {kvs:List (κ×V)}{vs:List (κ×Ab)}(r:KV kvs vs):kvs.length=vs.length:=Paired.length r
end
theorem qB {P:Ag}{w:Ai}{k:Key}{u:Ab}(r:RelV (kV k) u):(yb P w).is k u=true:=by
 cases k with
 |inl i=>obtain⟨t,e⟩:=(r);subst e;exact mq P w i t
 |inr x=>obtain⟨t,e⟩:=(r);subst e;exact ma P w x t
theorem qY {P:Ag}{w:Ai}:∀{ks:List Key}{us:List Ab},Vals (ks.map kV) us->ItemsAre (yb P w) ks us
 |[],_,r=>by rw[yd2]at r;cases r;exact .nil
 |k::ks,_,r=>by
  rw[z27]at r;cases r with
  |cons h t=>exact .cons (qB h) (qY t)
abbrev KT (H:Hp):List (List Key×V)->List (List Key×Ae×Ab)->Prop:=Paired λp q=>p.1=q.1/\H q.2.1=some (.tup (p.1.map kV))/\RelV p.2 q.2.2
theorem KT.val {H:Hp}{kvs:List (List Key×V)}{xs:List (List Key×Ae×Ab)}(r:KT H kvs xs)(k:List Key):vN (uJ kvs k) ((atKey xs k).map (·.2)):=by
 induction r with
 |nil=>exact True.intro
 |@cons p q ps qs h t ih=>
  obtain⟨h1,_,h2⟩:=h;by_cases e:p.1=k
  .have a:=h1.symm.trans e;have b:atKey (q::qs) k=some q.2:=by simp[atKey,z84,a]
   rw[uh e,b];exact h2
  .have a:¬q.1=k:=λz=>e (h1.trans z);have b:atKey (q::qs) k=atKey qs k:=by simp[atKey,z84,a]
   rw[vh e,b];exact ih
theorem KT.repl {H:Hp}{kvs:List (List Key×V)}{xs:List (List Key×Ae×Ab)}(r:KT H kvs xs)(k:List Key){y:V}{u:Ab}(b:RelV y u):
  KT H (kvs.map λa=>if a.1=k then(a.1,y)else a) (xs.map (putAt k u)):=by
 induction r with
 |nil=>exact .nil
 |@cons p q ps qs h t ih=>
  rw[z27,z27];refine .cons ?_ ih;obtain⟨h1,h2,h3⟩:=h;unfold putAt;by_cases e:p.1=k
  .rw[if_pos e,if_pos (h1.symm.trans e)];exact⟨h1,h2,b⟩
  .rw[if_neg e,if_neg (λz=>e (h1.trans z))];exact⟨h1,h2,h3⟩
def KT.put {H:Hp}{kvs:List (List Key×V)}{xs:List (List Key×Ae×Ab)}(r:KT H kvs xs)(k:List Key){b:Ae}{y:V}{u:Ab}(hb:H b=some (.tup (k.map kV)))(a:RelV y u):
  KT H (putK kvs k y) (storedH xs k b u):=by
 have e:(kvs.any λc=>decide (c.1=k))=(atKey xs k).isSome:=by rw[sM,(r.val k).isSome_eq,Option.isSome_map]
 unfold putK storedH;rw[e];by_cases q:(atKey xs k).isSome=true
 .rw[if_pos q,if_pos q];exact r.repl k a
 .rw[if_neg q,if_neg q];exact Paired.snoc r ⟨rfl,hb,a⟩
def KT.keeps {H H':Hp}{kvs:List (List Key×V)}{xs:List (List Key×Ae×Ab)}(r:KT H kvs xs)(a:∀b ys,H b=some (.tup ys)->H' b=some (.tup ys)):KT H' kvs xs:=
 Paired.mapP r λ_ _ z=>⟨z.1,a _ _ z.2.1,z.2.2⟩
section
variable {P:Ag}{w:Ai}{H:Hp}{h:Ao}{a:Ae}
def zw0 {u:HO}(ok:HOk P w H h)(e:Rd H a u):yi P w H h a u:=e.ok ok
def qZ {kvs:List (Key×V)}(ok:HOk P w H h)(e:Rd H a (.dK kvs)):kvs.length<=sizeLine/\(a == sysModules)=false/\∃vs,KV kvs vs/\h.DictOf (yb P w) a vs:=
 show yi P w H h a (.dK kvs)from zw0 ok e
def zu9 {kvs:List (Key×V)}(ok:HOk P w H h)(e:H a=some (.dK kvs)):kvs.length<=sizeLine/\(a == sysModules)=false/\∃vs,KV kvs vs/\h.DictOf (yb P w) a vs:=qZ ok (.inl e)
def rD {ks:List Key}(ok:HOk P w H h)(e:H a=some (.tup (ks.map kV))):(tupleKind (yb P w)).is h ks a:=by
 obtain⟨_,b,r,o,h1,h2,n,h3⟩:=(ok a _ e);exact⟨o,b.toArray,n,h1,h2,h3,by simpa using qY r⟩
def qL {kvs:List (List Key×V)}(ok:HOk P w H h)(e:Rd H a (.dT kvs)):kvs.length<=sizeLine/\(a == sysModules)=false/\
  ∃xs,KT H kvs xs/\h.DictOfH (tupleKind (yb P w)) a xs:=by
 obtain⟨z,y,xs,r,o,d,c,h1,h2,h3,g,f⟩:=(zw0 ok e);refine⟨z,y,xs,r,o,d,c,h1,h2,h3,g,λx b=>?_,f⟩;have all:∀{l:List (List Key×V)} {m:List (List Key×Ae×Ab)},KT H l m->∀x∈m,(tupleKind (yb P w)).is h x.1 x.2.1:=by
  intro l m q
  induction q with
  |nil=>intro x b;exact nomatch b
  |@cons p q ps qs hq t ih=>
   intro x b;rcases zZ9.mp b with e|b
   .subst e;exact rD ok (by rw[<-hq.1];exact hq.2.1)
   .exact ih x b
 exact all r x b
def zQ4 {kvs:List (List Key×V)}(ok:HOk P w H h)(e:H a=some (.dT kvs)):kvs.length<=sizeLine/\(a == sysModules)=false/\
  ∃xs,KT H kvs xs/\h.DictOfH (tupleKind (yb P w)) a xs:=qL ok (.inl e)
end
def ly (H:Hp)(a:Ae)(y:V)(r:Option V):Prop:=
 (∃kvs k,Rd H a (.dK kvs)/\y=kV k/\r=uJ kvs k)\/∃kvs k b,Rd H a (.dT kvs)/\y=.ref b/\H b=some (.tup (k.map kV))/\r=uJ kvs k
def bD (H:Hp)(a:Ae)(y v:V)(H':Hp):Prop:=
 (∃kvs k,H a=some (.dK kvs)/\y=kV k/\kvs.length<sizeLine/\H'=upd H a (.dK (putK kvs k v)))\/
 ∃kvs k b,H a=some (.dT kvs)/\y=.ref b/\H b=some (.tup (k.map kV))/\kvs.length<sizeLine/\H'=upd H a (.dT (putK kvs k v))
theorem bD.k {H:Hp}{a:Ae}{kvs:List (Key×V)}{k:Key}{v:V}(e:H a=some (.dK kvs))(b:kvs.length<sizeLine):bD H a (kV k) v (upd H a (.dK (putK kvs k v))):=.inl ⟨kvs,k,e,rfl,b,rfl⟩
section
variable {X:Cx}{pins:List (Ae×Obj)}{B:St}{H:Hp}{s:Ad}{a:Ae}{y v:V}{u r:Ab}{o:Option V}{A:Am}{E:Ab->Ad->Prop}
def Inv.big (I:Inv X pins B H s):sysModules<s.heap.objs.size:=yi0 (by decide) ((I.mod.glob.keeps I.bk).lt)
def fh {Q:Ab->Ad->Prop}(t:A.units+1<cLine)(I:Inv X pins B H s)(g:ly H a y (some v))(m:RelV y u)(h:∀d s',Inv X pins B H s'->RelV v d->Q d s'):
  Aj (Al X.prog X.w) A (getItem (.ref a) u) Q E s:=by
 rcases g with⟨kvs,k,e,i,l⟩|⟨kvs,k,b,e,i,n,l⟩
 .subst i;obtain⟨z,hd,vs,rel,f⟩:=qZ I.hok e;obtain⟨d,hw,c⟩:=vN.some_of (by rw[l];exact rel.val k);exact wpAny_getItem_of (qB m) f.mapOf hw (h d _ (I.tok _) c)
 .subst i;cases(m);obtain⟨z,hd,xs,rel,f⟩:=qL I.hok e;obtain⟨d,hw,c⟩:=vN.some_of (by rw[l];exact rel.val k);obtain⟨p,q,j⟩:=z22.mp hw;refine wpAny_getItem_heap (yg0 t) (rD I.hok n) f q ?_;rw[j];exact h d _ (I.tok _) c
def zW9 {Q:Ab->Ad->Prop}(j:A.units+1<cLine)(I:Inv X pins B H s)(g:ly H a y o)(f:RelV y u)(h:∀s',Inv X pins B H s'->Q (.bool o.isSome) s'):
  Aj (Al X.prog X.w) A (compareOp .In u (.ref a)) Q E s:=by
 rcases g with⟨kvs,k,e,d,l⟩|⟨kvs,k,b,e,d,i,l⟩
 .subst d;obtain⟨z,hd,vs,rel,c⟩:=qZ I.hok e;refine wpAny_in_of (qB f) hd c.mapOf ?_;rw[<-(rel.val k).isSome_eq,<-l];exact h _ (I.tok _)
 .subst d;cases(f);obtain⟨z,hd,xs,rel,c⟩:=qL I.hok e;refine wpAny_in_heap (yg0 j) (rD I.hok i) hd c ?_;have q:=(rel.val k).isSome_eq;rw[Option.isSome_map]at q;rw[<-q,<-l];exact h _ (I.tok _)
def zh1 {Q:Ab->Ad->Prop}(j:A.units+1<cLine)(I:Inv X pins B H s)(g:ly H a y o)(f:RelV y u)(h:∀s',Inv X pins B H s'->Q (.bool (!o.isSome)) s'):
  Aj (Al X.prog X.w) A (compareOp .NotIn u (.ref a)) Q E s:=by
 rcases g with⟨kvs,k,e,d,l⟩|⟨kvs,k,b,e,d,i,l⟩
 .subst d;obtain⟨z,hd,vs,rel,c⟩:=qZ I.hok e;refine wpAny_notIn_of (qB f) hd c.mapOf ?_;rw[<-(rel.val k).isSome_eq,<-l];exact h _ (I.tok _)
 .subst d;cases(f);obtain⟨z,hd,xs,rel,c⟩:=qL I.hok e;refine wpAny_notIn_heap (yg0 j) (rD I.hok i) hd c ?_;have q:=(rel.val k).isSome_eq;rw[Option.isSome_map]at q;rw[<-q,<-l];exact h _ (I.tok _)
def pF {h':Ao}{t':Nat}{ob:HO}(I:Inv X pins B H s)(d:Mut (H a))(c:Heap.SameBut a s.heap h')(he:∃q,h'.get? a=some q)(new:yi X.prog X.w (upd H a ob) h' a ob):
  Inv X pins B (upd H a ob) {s with heap:=h',toks:=t'}:=
 I.write d (.inl rfl) (λb q hb z=>(c.2 b hb).trans z) he new
def ze6 {P:Ag}{w:Ai}{H':Hp}{h':Ao}{kvs:List (Key×V)}{vs:List (Key×Ab)}(z:kvs.length<=sizeLine)(hd:(a == sysModules)=false)(rel:KV kvs vs)(b:h'.DictOf (yb P w) a vs):
  yi P w H' h' a (.dK kvs):=⟨z,hd,vs,rel,b⟩
def fC {H':Hp}{Q:Unit->Ad->Prop}(J:A.units+1<cLine)(I:Inv X pins B H s)(g:bD H a y v H')(C:RelV y u)(x:RelV v r)(h:∀s',Inv X pins B H' s'->Q () s'):
  Aj (Al X.prog X.w) A (setItem (.ref a) u r) Q E s:=by
 rcases g with⟨kvs,k,e,i,l,f⟩|⟨kvs,k,b,e,i,t,l,f⟩
 .subst i f;obtain⟨z,hd,vs,rel,j⟩:=zu9 I.hok e;have K:vs.length<=sizeLine:=by rw[<-rel.length];exact z
  have n:(putK kvs k v).length<=sizeLine:=by have:=wN kvs k v;exact z05 this l
  refine wpAny_setItem_pairs (qB C) j λh' d m=>h _ ?_;have he:∃q,h'.get? a=some q:=let⟨q,_,_,hq,_⟩:=d;⟨q,hq⟩;exact pF I (by rw[e];exact True.intro) m he (ze6 n hd (rel.put k x) d)
 .subst i f;cases(C);obtain⟨z,hd,xs,rel,j⟩:=zQ4 I.hok e;have K:xs.length<=sizeLine:=by rw[<-Paired.length rel];exact z
  have n:(putK kvs k v).length<=sizeLine:=by have:=wN kvs k v;exact z05 this l
  refine wpAny_setItem_heap (yg0 J) (rD I.hok t) j λh' d m=>h _ ?_;obtain⟨q,F,D,hq,h2,h3,L,_,G⟩:=d;refine pF I (by rw[e];exact True.intro) m ⟨q,hq⟩ ⟨n,hd,_,(rel.put k t x).keeps λc ys p=>?_,q,F,D,hq,h2,h3,L,G⟩;rw[zd (cI p e (λz=>nomatch z))];exact p
end
section
variable {X:Cx}{pins:List (Ae×Obj)}{B:St}{H:Hp}{s:Ad}{a:Ae}{kvs:List (Key×V)}{k:Key}{u:Ab}{A:Am}{E:Ab->Ad->Prop}
end
def mh {X:Cx}{pins:List (Ae×Obj)}{B:St}{H:Hp}{s:Ad}{a:Ae}{y:V}{o:Option V}(I:Inv X pins B H s)(g:ly H a y o):s.TypeIs (.ref a) "dict":=by
 rcases g with⟨kvs,k,e,_,_⟩|⟨kvs,k,b,e,_,_,_⟩
 .obtain⟨_,_,vs,_,c⟩:=qZ I.hok e;exact c.typeIs
 .obtain⟨_,_,xs,_,c⟩:=qL I.hok e;exact c.typeIs
def zQ5 (d ty e:TE):TS:=λD B H=>e B H λv H1=>d B H1 λx f=>ty B f λy c=>∃a b,x=.ref a/\bD c a y v b/\D.nx B b
section
variable {X:Cx}{o i e value:Ak}{pos pos' tpos:Pos}{td ty tv:TE}
def zr2 (m:X.A.units+1<cLine)(t:PE X o td)(hi:PE X i ty)(q:PE X value tv)(k:swapsWith value (some (.Subscript o i pos')) pos.line X.env=pure false):
  PS X (.Assign [.Subscript o i pos'] value pos) (zQ5 td ty tv):=by
 intro pins s B H D I h;refine wpAny_Assign_Subscript (thn (q pins s B H _ I h) λr s1 ⟨v,H1,C,p,b⟩=>thn (t pins s1 B H1 _ C b) λu s2 ⟨x,E,n,j,d⟩=>thn (hi pins s2 B E _ n d) λF s3 ⟨y,G,c,w,a,f,ex,g,l⟩=>?_) k;subst ex;obtain rfl:u=Value.ref a:=j;exact fC m c g w p λs4 z=>⟨B,f,z,l⟩
end
def aL {P:Ag}{w:Ai}{H:Hp}(h:Ao)(hb:sysModules<h.objs.size):yi P w H (h.push {cls:=.type "dict",data:=.dict #[]}) h.objs.size (.dK []):=
 ⟨z21 _,ya7.mpr (z42 (z30 hb)),[],.nil,Heap.DictOf.new h⟩
section
variable {X:Cx}{pos:Pos}
end
def ko :List (TE×TE)->St->Hp->(List (V×V)->Hp->Prop)->Prop
 |[],_,H,Q=>Q [] H
 |(tk,tv)::r,B,H,Q=>tk B H λx H1=>tv B H1 λy b=>ko r B b λps a=>Q ((x,y)::ps) a
abbrev VV :List (V×V)->List (Ab×Ab)->Prop:=Paired λp q=>RelV p.1 q.1/\RelV p.2 q.2
def PPs (X:Cx)(pos:Pos)(keys:List (Option Ak))(values:List Ak)(a:List (TE×TE)):Prop:=
 ∀(pins:List (Ae×Obj)) (s:Ad) (B:St) (H:Hp) (Q:List (V×V)->Hp->Prop),Inv X pins B H s->ko a B H Q->
  Aj (Al X.prog X.w) X.A (evalPairs (pairTrees keys values X.env pos)) (λvs s'=>∃ps H',Inv X pins B H' s'/\VV ps vs/\Q ps H') X.xe s
def zo5 {X:Cx}{pos:Pos}:PPs X pos [] [] []:=λpins s B H Q I h=>pairTrees_nil_walk ⟨[],H,I,.nil,h⟩
def dG {X:Cx}{pos:Pos}{k v:Ak}{ks:List (Option Ak)}{vs:List Ak}{c b:TE}{a:List (TE×TE)}(hk:PE X k c)(m:PE X v b)(hr:PPs X pos ks vs a):
  PPs X pos (some k::ks) (v::vs) ((c,b)::a):=λpins s B H Q I h=>
 pairTrees_cons_walk (thn (hk pins s B H _ I h) λu s1 ⟨x,H1,o,g,d⟩=>thn (m pins s1 B H1 _ o d) λq s2 ⟨y,p,l,n,f⟩=>
  thn (hr pins s2 B p _ l f) λws s3 ⟨ps,i,e,rel,j⟩=>⟨(x,y)::ps,i,e,.cons ⟨g,n⟩ rel,j⟩)
noncomputable def pA (kvs more:List (Key×V)):List (Key×V):=more.foldl (λacc a=>putK acc a.1 a.2) kvs
theorem KV.merge :∀{more:List (Key×V)}{rs:List (Key×Ab)}{kvs:List (Key×V)}{vs:List (Key×Ab)},KV more rs->KV kvs vs->KV (pA kvs more) (merged vs rs):=by
 intro more rs kvs vs r;unfold KV at r
 induction r generalizing kvs vs with
 |nil=>intro q;exact q
 |@cons p q ps qs h t ih=>
  intro a;have e:KV (putK kvs p.1 p.2) (stored vs q.1 q.2):=by
   have:=a.put p.1 h.2;rw[<-h.1];exact this
  exact ih e
theorem vB :∀(more kvs:List (Key×V)),(pA kvs more).length<=kvs.length+more.length
 |[],kvs=>by show kvs.length<=kvs.length+0;exact z23 _ _
 |p::r,kvs=>by
  have h1:=vB r (putK kvs p.1 p.2);rw[z28];exact zU4 h1 (wN kvs p.1 p.2)
theorem rE {P:Ag}{w:Ai}:∀{kvs:List (Key×V)}{ws:List (Ab×Ab)},VV (kvs.map λd=>(kV d.1,d.2)) ws->∃rs,Carries (yb P w) ws rs/\KV kvs rs
 |[],_,r=>by rw[yd2]at r;cases r;exact⟨[],True.intro,.nil⟩
 |p::kvs,_,r=>by
  rw[z27]at r;cases r with
  |@cons a b as bs h t=>
   obtain⟨rs,c,q⟩:=rE t;obtain⟨f,e⟩:=b;exact⟨(p.1,e)::rs,⟨qB h.1,rfl,c⟩,.cons ⟨rfl,h.2⟩ q⟩
def zP9 (a:List (TE×TE)):TE:=λB H Q=>∀p,H p=none->ko a B (upd H p (.dK [])) λps c=>c p=some (.dK [])/\∃kvs:List (Key×V),ps=kvs.map (λb=>(kV b.1,b.2))/\kvs.length<=15/\Q (.ref p) (upd c p (.dK (pA [] kvs)))
def zn7 {X:Cx}{pos:Pos}{keys:List (Option Ak)}{values:List Ak}{a:List (TE×TE)}(h:PPs X pos keys values a)(b:keys.all (·.isSome)=true)(p:keys.length=values.length)(h0:keys≠[])
  (f:keys.length<=15):PE X (.Dict keys values pos) (zP9 a):=by
 intro pins s B H Q I q;refine wpAny_Dict_walk (knd:=yb X.prog X.w) b p h0 f (thn (h pins _ B _ _ (I.laid (λ_ _ q=>zZ4 _ q) (zZ8 _) (aL s.heap I.big)) (q _ (I.hok.fresh (zZ8 s.heap.objs.size)))) λws s2 g=>?_);obtain⟨ps,v,i,rel,e,kvs,j,u,k⟩:=g;subst j;obtain⟨rs,c,m⟩:=rE rel;obtain⟨z,hd,r,l,n⟩:=zu9 i.hok e;cases l;refine⟨rs,c,n,λh' d o=>⟨.ref s.heap.objs.size,_,?_,rfl,k⟩⟩;have t:(pA [] kvs).length<=sizeLine:=by
  have h1:=vB kvs [];rw[yf3]at h1;rw[z71];lia
 have he:∃q,h'.get? s.heap.objs.size=some q:=let⟨q,_,_,hq,_⟩:=d;⟨q,hq⟩;exact pF i (by rw[e];exact True.intro) o he (ze6 t hd (m.merge .nil) d)
def IsD (H:Hp)(a:Ae):Prop:=(∃kvs,Rd H a (.dK kvs))\/∃kvs,Rd H a (.dT kvs)
def zF7 {X:Cx}{pins:List (Ae×Obj)}{B:St}{H:Hp}{s:Ad}{a:Ae}(I:Inv X pins B H s)(d:IsD H a):
  s.TypeIs (.ref a) "dict"/\(∀b,Value.ref a=.ref b->∃ob,s.heap.get? b=some ob/\ob.dict=none)/\(a == sysModules)=false:=by
 rcases d with⟨kvs,e⟩|⟨kvs,e⟩
 .obtain⟨_,hd,vs,_,c⟩:=qZ I.hok e;refine⟨c.typeIs,λb q=>?_,hd⟩;cases q;obtain⟨ob,_,_,h1,h2,_⟩:=c;exact⟨ob,h1,h2.2.1⟩
 .obtain⟨_,hd,xs,_,c⟩:=qL I.hok e;refine⟨c.typeIs,λb q=>?_,hd⟩;cases q;obtain⟨ob,_,_,h1,h2,_⟩:=c;exact⟨ob,h1,h2.2.1⟩
section
variable {X:Cx}{pins:List (Ae×Obj)}{B:St}{H:Hp}{s:Ad}{a:Ae}{y d:V}{u r:Ab}{o:Option V}{A:Am}{E:Ab->Ad->Prop}
end
section
variable {X:Cx}{o e f:Ak}{apos cpos:Pos}{td ty tx:TE}
end
section
variable {X:Cx}{pins:List (Ae×Obj)}{B:St}{H:Hp}{s:Ad}{a:Ae}{kvs:List (Key×V)}{A:Am}{E:Ab->Ad->Prop}
end
section
variable {X:Cx}{pins:List (Ae×Obj)}{B:St}{H:Hp}{s:Ad}{a:Ae}{y:V}{u:Ab}{A:Am}{E:Ab->Ad->Prop}
end
noncomputable def kEq :Aa->Key->Bool
 |.int i,.inl j=>decide (i=j)
 |.str x,.inr y=>decide (x=y)
 |_,_=>false
def rO (k j:Key):kEq (xG k) j=decide (k=j):=by
 cases k<;>cases j<;>simp[kEq,xG]
noncomputable def vX :List (Aa×Aa)->Key->Option Aa
 |[],_=>none
 |(p,d)::r,k=>if kEq p k=true then some d else vX r k
noncomputable def putD (ds:List (Aa×Aa))(k:Key)(d:Aa):List (Aa×Aa):=
 if(vX ds k).isSome=true then ds.map (λp=>if kEq p.1 k=true then(p.1,d)else p)else ds++[(xG k,d)]
theorem AVk.get {H:Hp}:∀{kvs:List (Key×V)}{ds:List (Aa×Aa)}{k:Key}{d:Aa},AVk H kvs ds->vX ds k=some d->∃v,uJ kvs k=some v/\AV H v d
 |_,_,k,d,.nil,e=>by cases e
 |_,_,k,d,.cons (k:=j) h r,e=>by
  unfold vX at e;rw[rO]at e;by_cases z:j=k
  .rw[z39 z,if_pos rfl]at e;cases e;exact⟨_,uh z,h⟩
  .rw[z38 z,if_neg (by decide)]at e;rw[vh z];exact AVk.get r e
theorem AVk.none {H:Hp}{kvs:List (Key×V)}{ds:List (Aa×Aa)}{k:Key}(h:AVk H kvs ds)(e:vX ds k=Option.none):uJ kvs k=Option.none:=by
 induction h using AVk.ind with
 |nil=>rfl
 |@cons j _ _ _ _ h r ih=>
  unfold vX at e;rw[rO]at e;by_cases z:j=k
  .rw[z39 z,if_pos rfl]at e;cases e
  .rw[z38 z,if_neg (by decide)]at e;rw[vh z];exact ih e
theorem AVk.some_iff {H:Hp}{kvs:List (Key×V)}{ds:List (Aa×Aa)}(h:AVk H kvs ds)(k:Key):(uJ kvs k).isSome=(vX ds k).isSome:=by
 cases e:vX ds k with
 |none=>rw[h.none e];rfl
 |some d=>
  obtain⟨v,a,_⟩:=h.get e;rw[a];rfl
theorem AVk.length {H:Hp}{kvs:List (Key×V)}{ds:List (Aa×Aa)}(h:AVk H kvs ds):kvs.length=ds.length:=h.ind (motive:=λxs ds _=>xs.length=ds.length) rfl λ_ _ z=>congrArg (·+1) z
theorem AVk.snoc {H:Hp}{k:Key}{v:V}{d:Aa}(a:AV H v d):∀{kvs:List (Key×V)}{ds:List (Aa×Aa)},AVk H kvs ds->AVk H (kvs++[(k,v)]) (ds++[(xG k,d)])
 |_,_,.nil=>.cons a .nil
 |_,_,.cons h r=>.cons h (AVk.snoc a r)
theorem AVk.repl {H:Hp}{k:Key}{v:V}{d:Aa}(a:AV H v d):∀{kvs:List (Key×V)}{ds:List (Aa×Aa)},AVk H kvs ds->AVk H (kvs.map λb=>if b.1=k then(b.1,v)else b) (ds.map λp=>if kEq p.1 k=true then(p.1,d)else p)
 |_,_,.nil=>.nil
 |_,_,.cons (k:=j) h r=>by
  rw[z27,z27];show AVk H ((if j=k then(j,v)else(j,_))::_) ((if kEq (xG j) k=true then(xG j,d)else(xG j,_))::_);rw[rO];by_cases z:j=k
  .rw[if_pos z,z39 z,if_pos rfl];exact .cons a (AVk.repl a r)
  .rw[if_neg z,z38 z,if_neg (by decide)];exact .cons h (AVk.repl a r)
def AVk.put {H:Hp}{kvs:List (Key×V)}{ds:List (Aa×Aa)}{k:Key}{v:V}{d:Aa}(h:AVk H kvs ds)(a:AV H v d):AVk H (putK kvs k v) (putD ds k d):=by
 unfold putK putD;rw[sM,h.some_iff];split
 .exact h.repl a
 .exact h.snoc a
theorem AVk.at {H:Hp}{kvs:List (Key×V)}{ds:List (Aa×Aa)}{i:Nat}{p:Aa×Aa}(h:AVk H kvs ds)(e:ds[i]?=some p):∃k v,kvs[i]?=some (k,v)/\p.1=xG k/\AV H v p.2:=by
 induction h using AVk.ind generalizing i with
 |nil=>simp at e
 |cons h _ a=>
  cases i with
  |zero=>exact z34 e▸⟨_,_,rfl,rfl,h⟩
  |succ i=>exact a e
theorem iO {H:Hp}(k:Key):AV H (kV k) (xG k):=by cases k with
 |inl i=>exact .int i
 |inr x=>exact .str x
theorem sr {H:Hp}{v:V}{k:Key}(h:AV H v (xG k)):v=kV k:=by
 cases k with
 |inl i=>exact h.int_inv
 |inr x=>exact h.str_inv
theorem AV.dk_inv {H:Hp}{v:V}{ds:List (Aa×Aa)}(h:AV H v (yW ds)):∃a o kvs,v=.ref a/\H a=some (.frz o (.dK kvs))/\AVk H kvs ds:=by
 generalize e:yW ds=d at h;cases h with
 |dk h1 h2=>cases e;exact⟨_,_,_,rfl,h1,h2⟩
 |_=>cases e
theorem eS {H:Hp}{l:Ae}{o:Obj}{u:HO}(h:H l=some (.frz o u)):Plain H l:=by
 first
 |trivial
 |(intro v e;rw[h]at e;cases e;exact⟨(λz=>by cases z),λps z=>by cases z⟩)
section
variable {X:Cx}{pins:List (Ae×Obj)}{B:St}{H:Hp}{s:Ad}{l:Ae}{kvs:List (Key×V)}
def zL5 (X:Cx)(l:Ae):Prop:=∀o u,X.H₀ l≠some (.frz o u)
def Inv.fz (I:Inv X pins B H s)(h:H l=some (.dK kvs)):zL5 X l/\∃o,Inv X pins B (upd H l (.frz o (.dK kvs))) s:=by
 refine⟨(λo u z=>by rw[I.base.frzs _ _ _ z]at h;cases h),?_⟩;obtain⟨z,y,vs,r,ob,d,a,e,c⟩:=(I.hok l _ h);refine⟨ob,I.write (by rw[h];trivial) (.inl rfl) (λb u _ q=>q) ⟨ob,e⟩ ?_⟩;exact⟨e,z,y,vs,r,ob,d,a,e,c⟩
def Inv.unfz {o:Obj}(f:zL5 X l)(I:Inv X pins B H s)(h:H l=some (.frz o (.dK kvs))):Inv X pins B (upd H l (.dK kvs)) s:=by
 have ne:∀{b:Ae},H b=none->upd H l (.dK kvs) b=none:=λ{b} e=>by rw[zd λz=>by rw[z,h]at e;cases e];exact e
 refine⟨I.ok,I.os,I.bare,⟨I.base.keep,I.base.slot,λb ob q n a=>ne (I.base.free b ob q n a),I.base.there,λb xs q=>?_,λb ob u q=>?_,λb ps q=>?_⟩,I.loc,I.cell,ne I.free,λx c e=>ne (I.freeC x c e),λp d=>?_,λb u q=>?_,I.len⟩
 .have:=I.base.tups b xs q;rw[zd λz=>by rw[z,h]at this;cases this];exact this
 .rw[zd λz=>by rw[z]at q;exact f _ _ q];exact I.base.frzs b ob u q
 .obtain⟨more,this⟩:=I.base.tbls b ps q;exact⟨more,by rw[zd λz=>by rw[z,h]at this;cases this];exact this⟩
 .obtain⟨h1,h2,h3⟩:=I.pin p d;exact⟨h1,ne h2,h3⟩
 .have st:∀{b:Ae} {u:HO},yi X.prog X.w H s.heap b u->yi X.prog X.w (upd H l (.dK kvs)) s.heap b u:=λ{b u} x=>x.stay (λ_ _ _ q=>q)
   (λc e=>by rw[zd λz=>by rw[z,h]at e;cases e];exact e) λc xs e=>by rw[zd λz=>by rw[z,h]at e;cases e];exact e
  by_cases z:b=l
  .subst z;rw[zg]at q;cases q;obtain⟨_,w⟩:=(I.hok b _ h);exact st w
  .rw[zd z]at q;exact st (I.hok b u q)
end
section
variable {X:Cx}{e:Ak}{sts:List An}
def zK5 {t:TE}{l:Ae}{kvs:List (Key×V)}(h:PE X e t):PE X e (λB H Q=>H l=some (.dK kvs)/\∀o,t B (upd H l (.frz o (.dK kvs))) λv b=>b l=some (.frz o (.dK kvs))/\Q v (upd b l (.dK kvs))):=by
 intro pins s B H Q I ⟨hl,q⟩;obtain⟨c,o,g⟩:=I.fz hl;refine thn (h pins s B _ _ g (q o)) λu s1 a=>?_;obtain⟨v,b,d,r,e,f⟩:=a;exact⟨v,_,d.unfz c e,r,f⟩
def zF1 {t:TS}{l:Ae}{kvs:List (Key×V)}(h:PSs X sts t):PSs X sts (λD B H=>H l=some (.dK kvs)/\∀o,t D B (upd H l (.frz o (.dK kvs)))):=by
 intro pins s B H D I ⟨hl,q⟩;obtain⟨b,o,a⟩:=I.fz hl;exact h pins s B _ _ a (q o)
end
section
variable {X:Cx}{L:Ev}{e a b:Ak}{pos p:Pos}{Q:Aa->Prop}
def M.fzk {F:Fr}{B:St}{H:Hp}{i:Nat}{ds:List (Aa×Aa)}{l:Ae}{kvs:List (Key×V)}{o:Obj}(m:M F L B H)(hi:L[i]?=some (some (.dic ds)))(v:B[i]?=some (some (.ref l)))(I:H l=some (.dK kvs)):
  M F (L.set i (some (.dat (yW ds)))) B (upd H l (.frz o (.dK kvs))):=by
 obtain⟨Z,E,h1,h2,h3,D,N⟩:=m.dic i ds hi;rw[v]at h1;cases h1;rw[I]at h2;cases h2;have nl:¬Ow F (L.set i (some (.dat (yW ds)))) B l:=m.gave hi v rfl λc z=>by cases z;exact id
 have ol:Ow F L B l:=.inr ⟨i,_,_,hi,v,rfl⟩;have G:zz (Gz F L B H) (Gz F (L.set i (some (.dat (yW ds)))) B (upd H l (.frz o (.dK kvs)))):=λx u e=>by
  obtain⟨P,W⟩:=zc (cU (b:=.dat (yW ds)) (λ_ _ f=>f) x u e);exact zy P (by rw[zd λz=>(zc e).1 (by rw[z];exact ol)];exact W)
 have J:=rY I;refine⟨by rw[z62];exact m.len,λj c s e1 h=>?_,λj w c d s t x e1 h K O f1 f2=>?_,λj r q e w c s x e1 h f=>?_,m.tp.updO D J,λy u e n=>?_,λy hy=>?_⟩
 .rcases zL e1 with⟨rfl,z⟩|⟨C,g⟩
  .cases z;rw[v]at h;cases h;exact⟨_,rfl,.dk (zy nl zg) (h3.same G)⟩
  .refine(m.ok j c s g h).stay G (λy u f e=>?_) rfl λr q T k=>⟨k.tp,k.o,k.ok.updO (λz=>D (k.o _ z)) J,λy u e n=>?_⟩
   .obtain⟨S,U,_⟩:=m.ft g h f;refine⟨?_,S,U⟩;rw[zd λz=>C (m.dj i j _ c _ s l hi g v h rfl (by rw[<-z];exact f))];exact e
   .rw[zd (zj e (m.xd j r q (by rw[<-T];exact g) i _ _ l hi v rfl))];exact k.k y u e n
 .rcases zL e1 with⟨rfl,z⟩|⟨C,g⟩
  .cases z;exact f1.elim
  .rcases zL h with⟨rfl,z⟩|⟨R,A⟩
   .cases z;exact f2.elim
   .exact m.dj j w c d s t x g A K O f1 f2
 .rcases zL e with⟨_,z⟩|⟨_,Y⟩
  .cases z
  .rcases zL e1 with⟨rfl,z⟩|⟨C,g⟩
   .cases z;exact f.elim
   .exact m.xd j r q Y w c s x g h f
 .rw[zd (zj e N)];exact m.keep y u e n
 .rw[zd (λz=>D (by rw[<-z];exact hy))];exact m.oex y hy
def M.fzback {F:Fr}{B:St}{H d:Hp}{i:Nat}{ds:List (Aa×Aa)}{l:Ae}{kvs:List (Key×V)}{o:Obj}(m:M F L B H)(hi:L[i]?=some (some (.dic ds)))(A:B[i]?=some (some (.ref l)))(y:H l=some (.dK kvs))
  (t:zK F d) (k:Kz F (upd H l (.frz o (.dK kvs))) d):d l=some (.frz o (.dK kvs))/\zK F (upd d l (.dK kvs))/\Kz F H (upd d l (.dK kvs))/\
   ∀x u,¬Ob u->Gz F (L.set i (some (.dat (yW ds)))) B d x=some u->Gz F L B (upd d l (.dK kvs)) x=some u:=by
 obtain⟨J,w,h1,h2,h3,D,K⟩:=m.dic i ds hi;rw[A]at h1;cases h1;rw[y]at h2;cases h2;have r:=k _ _ zg (m.tp.nt D);refine⟨r,t.updO D (eS r),λx u e n=>?_,λx u G e=>?_⟩
 .by_cases z:x=l
  .subst z;rw[y]at e;cases e;exact zg
  .rw[zd z];exact k x u (by rw[zd z];exact e) n
 .obtain⟨E,v⟩:=zc e;have nx:x≠l:=λz=>by rw[z,r]at v;cases v;exact G trivial
  refine zy (λq=>E ?_) (by rw[zd nx];exact v);rcases q with z|⟨j,c,s,g,h,f⟩
  .exact .inl z
  .by_cases C:i=j
   .subst C;rw[hi]at g;cases g;rw[A]at h;cases h;have I:=f;cases I;exact absurd rfl nx
   .exact .inr ⟨j,c,s,by rw[sJ C];exact g,h,f⟩
def aR {Q:List Aa->Prop}(i:Nat){ds:List (Aa×Aa)}(hi:L[i]?=some (some (.dic ds)))(h:EvL X (L.set i (some (.dat (yW ds)))) e λd=>wY d=true/\Q d):EvL X L e Q:=λF B H R m k=>by
 obtain⟨l,kvs,h1,h2,h3,E,D⟩:=m.dic i ds hi;refine⟨_,zK5 zf,h2,λo=>h F B _ _ (m.fzk hi h1 h2) λd v H' q t kz r=>?_⟩;obtain⟨g1,g2,g3,C⟩:=m.fzback hi h1 h2 t kz;obtain⟨f,xs,e1,c,w,n⟩:=r;have nl:f≠l:=λz=>by rw[z,zg]at c;cases c
 rw[zd nl]at c;refine⟨g1,k d v _ q.2 g2 g3 ⟨f,xs,e1,c,by rw[zd nl];exact w,n.noL (λx u y z=>?_) q.1⟩⟩;obtain⟨g,A⟩:=zc z;obtain⟨j,s⟩:=zc (C x u y (zy g.1 A));exact zy ⟨j,g.2⟩ s
def zI8 (i:Nat){ds:List (Aa×Aa)}{c:List An}{E:xf}(hi:L[i]?=some (some (.dic ds)))(h:SvS X (L.set i (some (.dat (yW ds)))) c E):SvS X L c E:=λF B H D m r=>by
 obtain⟨l,kvs,h1,h2,h3,f,d⟩:=m.dic i ds hi;exact⟨_,zF1 zY,h2,λo=>h F B _ D (m.fzk hi h1 h2) r⟩
def zs2 (i:Nat){x:Str}{n:Ak}{ds:List (Aa×Aa)}{p1 p2:Pos}{rest:List An}{E:xf}(I:X.A.units+1<cLine)(hi:L[i]?=some (some (.dic ds)))(h:EvD X L e λd=>EvD X L n λy=>∃k,y=xG k/\ds.length<1000/\SvS X (L.set i (some (.dic (putD ds k d)))) rest E)
  (C:X.N[i]?=some x:=by rfl) (J:Vis X.env.scope x:=by first|exact Or.inl rfl|exact Or.inr (Or.inl rfl)|exact Or.inr (Or.inr rfl)) (hd:(x == ("__debug__":Str))=false:=by decide) (j:(x == ("__classdict__":Str))=false:=by decide)
  (f:swapsWith e (some (.Subscript (.Name x p1) n p2)) pos.line X.env=pure false:=by rfl):
  SvS X L (.Assign [.Subscript (.Name x p1) n p2] e pos::rest) E:=λF B H D m r=>by
 obtain⟨l,kvs,h1,h2,h3,o,K⟩:=m.dic i ds hi;refine⟨_,zJ (zr2 I (xj C J hd j) zf zf f) zY,h F B H _ m λd v H1 s t1 g u=>?_⟩;have m1:=m.kz g t1;refine⟨.ref l,h1,s F B H1 _ m1 λy M O t w c G=>?_⟩;obtain⟨k,rfl,z,q⟩:=t;cases sr G;refine⟨l,_,rfl,bD.k (c _ _ (g _ _ h2 (m.tp.nt o)) (m.tp.nt o)) (by rw[h3.length];exact yo (z58 z)),?_⟩;exact q F B _ D ((m1.kz c w).wrC hi h1 (.dk (((h3.same (g.gz m.tp)).same (c.gz m1.tp)).put (u.same (c.gz m1.tp))))) r
end
section
variable {X:Cx}{L:Ev}{e a b:Ak}{pos p:Pos}{Q:Aa->Prop}
def cG (h:EvD X L a λy=>EvD X L b λd=>∃k,y=xG k/\Q (yW [(xG k,d)])):EvC X L (.Dict [some a] [b] pos) Q:=λF B H R m s=>by
 refine⟨_,zn7 (dG zf zf zo5) rfl rfl (List.cons_ne_nil _ _) (by show 1<=15;decide),λl c=>?_⟩;have s0:zz H (upd H l (.dK [])):=zH c;have m0:=m.park (Kz.of_same s0) (m.tp.same s0) c zg (λ_ z=>by cases z);refine h _ B _ _ m0 λy C H1 r t1 g u=>?_;refine r _ B H1 _ (m0.kz g t1) λd v D t w j A=>?_;obtain⟨k,rfl,q⟩:=t;cases sr u;have nl:=m.fresh c;have f:=m.tp.nt (ow0 nl);have i:=j _ _ (g _ _ zg f) f;refine⟨i,[(k,v)],rfl,by show 1<=15;decide,?_⟩;refine s _ _ _ q ((m.tp.re w rfl).updO (ow0 nl) (rY i)) (λx o e n=>?_) ⟨l,_,rfl,c,zg,?_⟩
 .have nx:x≠l:=λz=>by rw[z,c]at e;cases e
  rw[zd nx];exact j _ _ (g _ _ (s0 _ _ e) n) n
 .refine yI.dk ?_;refine AVk.cons (A.same (zq λx o h e=>?_)) .nil;have nx:x≠l:=λz=>h (.inl (.inr z));exact⟨⟨λz=>h (z.elim (λz=>.inl (.inl z)) .inr),nx⟩,by rw[zd nx];exact e⟩
end
def epO (o:Obj):Nat:=match o.data with
 |.dict _ a=>a
 |_=>0
def Inv.fzAt {X:Cx}{pins:List (Ae×Obj)}{B:St}{H:Hp}{s:Ad}{a:Ae}{o:Obj}{kvs:List (Key×V)}(I:Inv X pins B H s)(h:H a=some (.frz o (.dK kvs))):
  kvs.length<=sizeLine/\(a == sysModules)=false/\∃vs,KV kvs vs/\s.heap.DictAt (yb X.prog X.w) a vs (epO o):=by
 obtain⟨b,z,y,vs,r,ob,f,d,e,i,c,j⟩:=(I.hok a _ h);rw[b]at e;cases e;have g:epO o=d:=by unfold epO;rw[c]
 rw[g];exact⟨z,y,vs,r,o,f,b,i,c,j⟩
theorem KV.at {kvs:List (Key×V)}{vs:List (Key×Ab)}(r:KV kvs vs):∀{i:Nat}{k:Key}{v:V},kvs[i]?=some (k,v)->∃u,vs[i]?=some (k,u)/\RelV v u:=by
 unfold KV at r
 induction r with
 |nil=>intro i k v e;simp at e
 |@cons p q ps qs h t ih=>
  intro i k v e;cases i with
  |zero=>
   simp at e;subst e;refine⟨q.2,?_,h.2⟩;have h1:k=q.1:=h.1;rw[h1];rfl
  |succ i=>
   obtain⟨u,h1,h2⟩:=ih (by simpa using e);exact⟨u,by simpa using h1,h2⟩
def jM {P:Ag}{w:Ai}{k:Key}{u:Ab}(h:(yb P w).is k u=true):RelV (kV k) u:=by
 rcases zZ (h)with⟨i,t,rfl,rfl⟩|⟨x,t,rfl,rfl⟩
 .exact⟨t,rfl⟩
 .exact⟨t,rfl⟩
def Itd (a:Ae)(o:Obj)(kvs:List (Key×V)):It:=⟨λi H=>H a=some (.frz o (.dK kvs))/\i<kvs.length,λi H x H'=>H'=H/\∃k v,kvs[i]?=some (k,v)/\x=kV k,λi H=>H a=some (.frz o (.dK kvs))/\kvs.length<=i⟩
def zK2 (a:Ae)(o:Obj)(kvs:List (Key×V)):It:=⟨λi H=>H a=some (.frz o (.dK kvs))/\i<kvs.length,λi H x H'=>H'=H/\∃k v,kvs[i]?=some (k,v)/\x=v,λi H=>H a=some (.frz o (.dK kvs))/\kvs.length<=i⟩
def gO {P:Ag}{w:Ai}{K:Ac}{tg:Ak}(a it:Ae)(ob:Obj)(kvs:List (Key×V)):Turn P w K tg (Itd a ob kvs) [it] it (λi h=>h.IsKeyIter it a i kvs.length (epO ob)) where
 mem:=by simp
 obj:=λi h st b hb=>by
  have e:b=it:=by simpa using hb
  subst e;obtain⟨o,e,c,d⟩:=st;exact⟨o,e,λv z=>by rw[d]at z;cases z⟩
 keep:=λi h h' st k=>st.at λo e=>k it (by simp) o e
 item:=by
  intro X n hw l q i pins s B H E I hf st hg;subst n hw l;obtain⟨hq,hi⟩:=hg;obtain⟨_,_,vs,rel,m⟩:=I.fzAt hq;obtain⟨⟨k,v⟩,t⟩:∃p,kvs[i]?=some p:=⟨kvs[i],zZ5 hi⟩;obtain⟨u,A,C⟩:=rel.at t;obtain⟨f0,f1,f2,g,f4,j⟩:=hf it (by simp);rw[rel.length]at st ⊢;refine wpAny_pyNext_dict_item st m A λkey h' hk f y=>?_;obtain⟨o,e,c,d⟩:=id f;exact⟨key,rfl,qU e c d (by decide) ⟨kV k,H,(I.turned (λb o hb e=>(y.2 b hb).trans e) f0 f1 g f4 j),jM hk,⟨rfl,k,v,t,rfl⟩,f,λb hb=>(hf b hb).1⟩⟩
 done:=by
  intro X n hw l q i pins s B H E I hf st hg;subst n hw l;obtain⟨hq,hi⟩:=hg;obtain⟨_,_,vs,rel,m⟩:=I.fzAt hq;have r:=rel.length;obtain⟨f0,f1,f2,g,f4,j⟩:=hf it (by simp);rw[r]at st;exact wpAny_pyNext_dict_end (I.ok.hd q) st m (yb5 (z05 (z26 r.symm) hi)) λh' x=>⟨rfl,I.turned (λb o hb e=>x b o hb e) f0 f1 g f4 j⟩
 self:=λ_ _ _ _ _ st h=>wpAny_pyIter_keyiter st h
def fF {P:Ag}{w:Ai}{K:Ac}{tg:Ak}(a it:Ae)(ob:Obj)(kvs:List (Key×V)):Turn P w K tg (zK2 a ob kvs) [it] it (λi h=>h.IsValIter it a i kvs.length (epO ob)) where
 mem:=by simp
 obj:=λi h st b hb=>by
  have e:b=it:=by simpa using hb
  subst e;obtain⟨o,e,c,d⟩:=st;exact⟨o,e,λv z=>by rw[d]at z;cases z⟩
 keep:=λi h h' st k=>st.at λo e=>k it (by simp) o e
 item:=by
  intro X n hw l q i pins s B H E I hf st hg;subst n hw l;obtain⟨hq,hi⟩:=hg;obtain⟨_,_,vs,rel,m⟩:=I.fzAt hq;obtain⟨⟨k,v⟩,t⟩:∃p,kvs[i]?=some p:=⟨kvs[i],zZ5 hi⟩;obtain⟨u,A,C⟩:=rel.at t;obtain⟨f0,f1,f2,g,f4,j⟩:=hf it (by simp);rw[rel.length]at st ⊢;refine wpAny_pyNext_values_item st m A λh' f y=>?_;obtain⟨o,e,c,d⟩:=id f;exact⟨u,rfl,qU e c d (by decide) ⟨v,H,(I.turned (λb o hb e=>(y.2 b hb).trans e) f0 f1 g f4 j),C,⟨rfl,k,v,t,rfl⟩,f,λb hb=>(hf b hb).1⟩⟩
 done:=by
  intro X n hw l q i pins s B H E I hf st hg;subst n hw l;obtain⟨hq,hi⟩:=hg;obtain⟨_,_,vs,rel,m⟩:=I.fzAt hq;have r:=rel.length;obtain⟨f0,f1,f2,g,f4,j⟩:=hf it (by simp);rw[r]at st;exact wpAny_pyNext_values_end (I.ok.hd q) st m (yb5 (z05 (z26 r.symm) hi)) λh' x=>⟨rfl,I.turned (λb o hb e=>x b o hb e) f0 f1 g f4 j⟩
 self:=λ_ _ _ _ _ st h=>wpAny_pyIter_valiter st h
section
variable {X:Cx}{tg:Ak}
def zl2 {l:Ak}{f:TE}(m:PE X l f):PI X tg l (λB H R=>f B H λx H1=>∃a o kvs,x=.ref a/\H1 a=some (.frz o (.dK kvs))/\R (Itd a o kvs) H1):=by
 intro pins s B H R I h;refine thn (m pins s B H _ I h) λv s1 d=>?_;obtain⟨x,H1,c,k,i⟩:=d;obtain⟨a,o,kvs,rfl,hq,q⟩:=i;cases k;obtain⟨_,j,vs,rel,g⟩:=c.fzAt hq;refine wpAny_pyIter_dict j g ?_;refine⟨s1.heap.objs.size,[s1.heap.objs.size],_,_,H1,rfl,c.kept λb o e=>zZ4 _ e,gO a _ o kvs,⟨_,z08 _ rfl,rfl,by rw[rel.length];rfl⟩,λb hb=>?_,q⟩;have e:b=s1.heap.objs.size:=by simpa using hb
 subst e;exact c.fpOk (zZ8 _) (c.hok.fresh (zZ8 _))
def zg0 {l:Ak}{k:TE}{apos c:Pos}(y:PE X l k)(d:attributeBase l "values" X.env (eval l X.env)=eval l X.env:=by rfl)(f:(apos.endLine == c.line)=true:=by rfl):
  PI X tg (.Call (.Attribute l "values" apos) [] [] c) (λB H R=>k B H λx H1=>∃a o kvs,x=.ref a/\H1 a=some (.frz o (.dK kvs))/\R (zK2 a o kvs) H1):=by
 intro pins s B H R I h;refine wpAny_Call_method0_late d f (thn (y pins s B H _ I h) λv s1 g=>?_);obtain⟨x,H1,j,t,r⟩:=g;obtain⟨a,o,kvs,rfl,hq,q⟩:=r;cases t;obtain⟨_,u,vs,rel,m⟩:=j.fzAt hq;obtain⟨n,p,_⟩:=zF7 j (.inl ⟨kvs,.inr ⟨o,hq⟩⟩);refine⟨"dict","dict.values",PySem.F.plainAttrs_dict,PySem.F.slot_dict_values,PySem.F.type_dict_values,n,p,yg6 rfl (PySem.evalArgs_none (call_meetsIn PySem.F.slot_dict_values n PySem.F.entry_dict_values (PySem.F.args_dict_values_1 _) (meets_dict_values (yb X.prog X.w) a u) ⟨⟨vs,m.dictOf⟩,?_⟩))⟩;have i:Inv X pins B H1 {s1 with heap:=s1.heap.push {cls:=.type "dict_values",data:=.fields #[.ref a]}}:=j.kept λb o e=>zZ4 _ e;refine wpAny_pyIter_values ⟨_,z08 _ rfl,rfl,rfl⟩ (m.push _) ?_;refine⟨(s1.heap.push {cls:=.type "dict_values",data:=.fields #[.ref a]}).objs.size,[(s1.heap.push {cls:=.type "dict_values",data:=.fields #[.ref a]}).objs.size],_,_,H1,rfl,i.kept λb o e=>zZ4 _ e,fF a _ o kvs,⟨_,z08 _ rfl,rfl,by rw[rel.length];rfl⟩,λb hb=>?_,q⟩;have e:b=(s1.heap.push {cls:=.type "dict_values",data:=.fields #[.ref a]}).objs.size:=by simpa using hb
 subst e;exact i.fpOk (zZ8 _) (i.hok.fresh (zZ8 _))
end
section
variable {X:Cx}{L:Ev}{e a b tg:Ak}{pos p:Pos}{Q:List Aa->Prop}
def zp5 (h:EvD X L e λx=>∃ds,x=yW ds/\Q (ds.map (·.1))):EvI X L tg e Q:=λF B H R m k=>by
 refine⟨_,zl2 zf,h F B H _ m λx z H1 l t1 j n=>?_⟩;obtain⟨ds,rfl,q⟩:=l;obtain⟨a,o,kvs,rfl,g1,g2⟩:=n.dk_inv;refine⟨a,o,kvs,rfl,(zc g1).2,k _ _ H1 q t1 j λi G E s=>⟨λd hd=>?_,λf=>?_⟩⟩
 .rw[z04,z22]at hd;obtain⟨pr,r,rfl⟩:=hd;obtain⟨w,v,g,t,u⟩:=g2.at r;refine⟨⟨(zc (s _ _ g1)).2,(zZ6.mp g).1⟩,λx A y=>?_⟩;obtain⟨rfl,D,C,c,rfl⟩:=y;rw[g]at c;cases c;refine⟨zz.refl _,λ_=>?_⟩;rw[t];exact iO _
 .rw[zZ2]at f;exact⟨(zc (s _ _ g1)).2,by rw[g2.length];exact f⟩
def zk7 {apos c:Pos}(h:EvD X L e λx=>∃ds,x=yW ds/\Q (ds.map (·.2)))(f:attributeBase e "values" X.env (eval e X.env)=eval e X.env:=by rfl)(g:(apos.endLine == c.line)=true:=by rfl):
  EvI X L tg (.Call (.Attribute e "values" apos) [] [] c) Q:=λF B H R m k=>by
 refine⟨_,zg0 zf f g,h F B H _ m λx C H1 t t1 r w=>?_⟩;obtain⟨ds,rfl,q⟩:=t;obtain⟨a,o,kvs,rfl,g1,g2⟩:=w.dk_inv;refine⟨a,o,kvs,rfl,(zc g1).2,k _ _ H1 q t1 r λi K J s=>⟨λd hd=>?_,λl=>?_⟩⟩
 .rw[z04,z22]at hd;obtain⟨pr,z,rfl⟩:=hd;obtain⟨A,v,n,G,u⟩:=g2.at z;refine⟨⟨(zc (s _ _ g1)).2,(zZ6.mp n).1⟩,λx D y=>?_⟩;obtain⟨rfl,I,E,j,rfl⟩:=y;rw[n]at j;cases j;exact⟨zz.refl _,λ_=>u.same s⟩
 .rw[zZ2]at l;exact⟨(zc (s _ _ g1)).2,by rw[g2.length];exact l⟩
def rN (t:X.calm=true):yt X (.type "list") (λxs H Q=>∃a o kvs,xs=[.ref a]/\H a=some (.frz o (.dK kvs))/\∀l,H l=none->Q (.ref l) (upd H l (.lst (kvs.map λp=>kV p.1)))):=by
 intro pins s B H xs us Q I r h;obtain⟨a,o,kvs,rfl,hq,q⟩:=h;obtain⟨u,rfl,z⟩:=vals1 r;cases z;obtain⟨m,D,vs,rel,C⟩:=I.fzAt hq;refine PySem.W.kdl_call (PySem.W.kdl_dict D) (I.ok.hd t) C (by rw[<-rel.length];exact m) λh' G c c' kp e it=>?_;refine⟨.ref s.heap.objs.size,_,I.laid kp (zZ8 _) (show yi X.prog X.w _ h' _ (.lst (kvs.map λp=>kV p.1))from⟨by rw[zZ2];exact m,c.toList,c',?_,by simpa using e⟩),rfl,q _ (I.hok.fresh (zZ8 _))⟩;have key:∀{as:List V} {bs:List Ab},as.length=bs.length->(∀(j:Nat) x,as[j]?=some x->∃u,bs[j]?=some u/\RelV x u)->Vals as bs:=by
  intro as
  induction as with
  |nil=>intro bs h1 _;cases bs with|nil=>exact .nil|cons _ _=>simp at h1
  |cons x as A=>
   intro bs h1 h2;cases bs with
   |nil=>simp at h1
   |cons y bs=>
    obtain⟨u,d,g⟩:=h2 0 x rfl;simp at d;subst d;exact .cons g (A (by simpa using h1) λj i f=>by simpa using h2 (j+1) i (by simpa using f))
 refine key (by rw[zZ2,rel.length,ye6];exact it.1.symm) λj x f=>?_;rw[z04,z22]at f;obtain⟨⟨k,v⟩,h1,rfl⟩:=f;obtain⟨F,h2,_⟩:=rel.at h1;have n:j<c.size:=by rw[it.1];exact(zZ6.mp h2).1
 obtain⟨E,i,d,g⟩:=it.2 j c[j] (by simp[n]);rw[h2]at d;cases d;exact⟨c[j],by simp[n],jM g⟩
theorem bL {H G:Hp}{kvs:List (Key×V)}{ds:List (Aa×Aa)}(h:AVk H kvs ds):AVs G (kvs.map λp=>kV p.1) (ds.map (·.1)):=by
 induction h using AVk.ind with
 |nil=>exact .nil
 |cons _ _ c=>exact .cons (iO _) c
def zf0 (i:X.calm=true)(hg:Gl X "list")(hm:X.mg "list"=none)(h:EvD X L e λx=>∃ds,x=yW ds/\Q (ds.map (·.1)))(he:Af [e] X.env=(false,eval e X.env)::Af [] X.env:=by rfl):
  EvL X L (.Call (.Name "list" p) [e] [] pos) Q:=λF B H R m k=>by
 refine⟨_,yw (rN i) hg hm boot_list (zr zf zD he) (he:=he),h F B H _ m λx s H1 f t1 c r=>?_⟩;obtain⟨ds,rfl,q⟩:=f;obtain⟨a,o,kvs,rfl,g1,g2⟩:=r.dk_inv;refine⟨a,o,kvs,rfl,(zc g1).2,λl d=>?_⟩;obtain⟨j,n,g⟩:=(m.kz c t1).lay d (bL g2);exact k _ _ _ q j (c.trans n) (g.back m c t1)
end
mutual
noncomputable def ltD :Aa->Aa->Option Bool
 |.int a,.int b=>some (decide (a<b))
 |.str a,.str b=>some (decide (a.cps.toList<b.cps.toList))
 |.tuple xs,.tuple ys=>kg xs ys
 |_,_=>none
noncomputable def kg :List Aa->List Aa->Option Bool
 |[],[]=>some false
 |[],_::_=>some true
 |_::_,[]=>some false
 |x::xs,y::ys=>if PyData.eqv x y=true then kg xs ys else ltD x y
end
def zJ0 (A:Am)(s:Ad)(x y:Aa):Prop:=∀(v u:Ab) (as bs:List Ae) (r:Bool),Reads s.heap v x as->Reads s.heap u y bs->x.canLay0=true->y.canLay0=true->ltD x y=some r->
 ∀(prog:Ag) (w:Ai) (E:Ab->Ad->Prop) (Q:Ab->Ad->Prop),Q (.bool r) s->Aj (Al prog w) A (richCompare .Lt v u) Q E s
section
open PySem.SeqAt
open PySem.AutoSeq1 (wpAny_loadPart')
open PySem.MeetsSeq PySem.MeetsSeq2 PySem.MeetsSeq3
def zE5 (l b:Ae)(items c:Array Ab)(n n2:Nat)(X L:Option Ae)(sl O:Array (Option Ab))(xs ys:List Aa)(z:Bool)(G:kg xs ys=some z)(hcx:PyData.canLayAll0 xs=true)(hcy:PyData.canLayAll0 ys=true):
  Meets (Builtin.«tuple.__lt__» ⟨[.ref l,.ref b],[]⟩)
   (λA R s=>s.heap.get? l=some {cls:=.type "tuple",dict:=X,data:=.seq items n,slots:=sl}/\s.heap.get? b=some {cls:=.type "tuple",dict:=L,data:=.seq c n2,slots:=O}/\
    (∃as bs,ReadsAll s.heap items.toList xs as/\ReadsAll s.heap c.toList ys bs)/\A.units+1+PyData.depthAll xs<cLine/\(∀x∈xs,∀y,zJ0 A.in1 s x y)/\R (.ok (.ret (.bool z))) s):=
 .of_wp λprog w A R s h=>by
  obtain⟨J,g,d,U,os⟩:=s;obtain⟨W,hb,⟨as,bs,P,T⟩,V,D,h⟩:=h;have f2:=AutoSeq1.sub_tuple_tuple;have S:items.size=xs.length:=by simpa using SeqAt.ReadsAll.length _ _ _ P
  have Z:c.size=ys.length:=by simpa using SeqAt.ReadsAll.length _ _ _ T
  wp_walk using yi6 W,yi6 hb,wpAny_forIn_list _ (λrest b s'=>b.1=none/\s'=⟨J,g,d,U,os⟩/\∃vs ws f i t o,rest=vs.zip ws/\
   ReadsAll J vs f t/\ReadsAll J ws i o/\f.length+c.size=i.length+items.size/\kg f i=some z/\PyData.canLayAll0 f=true/\PyData.canLayAll0 i=true/\(∀x∈f,x∈xs)) _
  case turn=>
   rintro⟨y,x⟩ rest b s' ⟨p,rfl,vs,ws,f,i,t,o,m,K,I,hlen,k,F,H,j⟩;cases K with
   |nil=>rw[List.zip_nil_left]at m;cases m
   |@cons v vs' d0 ds0 a1 a2 p1 C=>
    cases I with
    |nil=>rw[List.zip_nil_right]at m;cases m
    |@cons u us' e0 es0 Y b2 p2 r=>
     rw[List.zip_cons_cons]at m;injection m with M q;injection M with hy B;subst hy B;simp only[PyData.canLayAll0,z36]at F H;have hd:d0.depth<=PyData.depthAll xs:=by
      have hm:=j d0 z03;clear D j h P G hcx S
      induction xs with
      |nil=>cases hm
      |cons a as ih=>
       simp only[PyData.depthAll];rcases zZ9.mp hm with rfl|hm
       .exact Nat.le_max_left _ _
       .refine z05 (ih ?_ hm) (Nat.le_max_right _ _);simp only[PyData.depthAll]at V;have:=Nat.le_max_right a.depth (PyData.depthAll as);exact zw5 V
     have he:=SeqAt.eqAt_reads d0 e0 A.in1 ⟨J,g,d,U,os⟩ _ _ _ _ p1 p2 F.1 H.1 (by show A.units+1+min d0.depth e0.depth<cLine;lia);simp only[z28]at hlen;unfold kg at k;refine zZ3 (he prog w _ _ ?_);cases e:PyData.eqv d0 e0 with
     |true=>
      rw[e,if_pos rfl]at k
      wp_walk
      exact⟨rfl,rfl,_,_,_,_,_,_,q,C,r,(zT0 hlen),k,F.2,H.2,λx B=>j x (z01 _ B)⟩
     |false=>
      rw[e,if_neg (by decide)]at k;have N:=λE Q hq=>D d0 (j d0 z03) e0 _ _ _ _ z p1 p2 F.1 H.1 k prog w E Q hq
      wp_walk using N
      exact⟨_,rfl,by simpa using h⟩
  case fin=>
   rintro⟨Y,b2⟩ s' ⟨p,rfl,vs,ws,f,i,t,o,m,K,I,hlen,k,F,H,j⟩;simp only at p;subst p;have hv:z=decide (items.size<c.size):=by
    cases K with
    |nil=>
     cases I with
     |nil=>
      cases k;simp only[yf3]at hlen;exact(z38 (zO3 hlen)).symm
     |cons p2 r=>
      cases k;simp only[yf3,z28]at hlen;exact(z39 (zP1 hlen)).symm
    |cons p1 C=>
     cases I with
     |nil=>
      cases k;simp only[yf3,z28]at hlen;exact(z38 (zN0 hlen)).symm
     |cons p2 r=>
      rw[List.zip_cons_cons]at m;cases m
   rw[hv]at h
   wp_walk
   exact⟨_,rfl,by simpa[Builtin.Tuple.tupleCompareSizes]using h⟩
  case h=>
   exact⟨rfl,rfl,items.toList,c.toList,xs,ys,as,bs,rfl,P,T,(zT6 S Z),G,hcx,hcy,λx B=>B⟩
end
mutual
theorem qI :∀(d:Aa) (e:Aa) (A:Am) (s:Ad),A.units+d.depth<cLine->zJ0 A s d e
 |.int a,e,A,s,g=>λv u as bs r c f _ _ h prog w E Q q=>by
  cases e with
  |int b=>
   cases h;cases c;cases f;exact(PyProof.Rows.lt_int q:Aj (Al prog w) A (compareOp .Lt _ _) Q E s)
  |_=>cases h
 |.str a,e,A,s,g=>λv u as bs r c f _ _ h prog w E Q q=>by
  cases e with
  |str b=>
   cases h;cases c;cases f;exact(lt_str q:Aj (Al prog w) A (compareOp .Lt _ _) Q E s)
  |_=>cases h
 |.tuple xs,e,A,s,g=>λv u as bs r c f n o h prog w E Q q=>by
  cases e with
  |tuple ys=>
   cases c with
   |@tuple a1 o1 vs n1 _ _ g1 g2 g3 g4=>
    cases f with
    |@tuple a2 o2 ws n2 _ _ k1 k2 k3 k4=>
     obtain⟨cls,m,data,sl⟩:=o1;obtain⟨l,k,data2,j⟩:=o2;simp only at g2 g3 k2 k3;subst g2 g3 k2 k3;have i:A.units+1+PyData.depthAll xs<cLine:=by
      simp only[PyData.depth]at g
      lia
     exact richCompare_meets_room ⟨_,g1,rfl⟩ ⟨_,k1,rfl⟩ PySem.F.slot_tuple_lt PySem.F.entry_tuple_lt (PySem.F.args_tuple_lt_2 _ _) (zE5 a1 a2 vs ws n1 n2 m k sl j xs ys r h (by simpa only[PyData.canLay0]using n) (by simpa only[PyData.canLay0]using o))
      ⟨g1,k1,⟨_,_,g4,k4⟩,i,nj xs A.in1 s (i),show Value.bool r≠Value.notImplemented/\Q (.bool r) s from⟨(λx=>nomatch x),q⟩⟩ (z29 (z23 _ _) g)
  |_=>cases h
 |.none,e,A,s,g=>λv u as bs r c f _ _ h=>by cases e<;>cases h
 |.bool _,e,A,s,g=>λv u as bs r c f _ _ h=>by cases e<;>cases h
 |.list _,e,A,s,g=>λv u as bs r c f _ _ h=>by cases e<;>cases h
 |.dict _,e,A,s,g=>λv u as bs r c f _ _ h=>by cases e<;>cases h
theorem nj :∀(xs:List Aa) (A:Am) (s:Ad),A.units+PyData.depthAll xs<cLine->∀x∈xs,∀y,zJ0 A s x y
 |[],A,s,b=>λx a=>by cases a
 |d::ds,A,s,b=>λx a y=>by
  simp only[PyData.depthAll]at b;have h1:=Nat.le_max_left d.depth (PyData.depthAll ds);by_cases e:x=d
  .rw[e];exact qI d y A s (by lia)
  .exact nj ds A s (zw5 b) x ((zZ9.mp a).resolve_left e) y
end
section
variable {prog:Ag}{w:Ai}{A:Am}{R:Result->Ad->Prop}{it:Ae}{fp wr:List Ae}{m:Nat}{P:Nat->Ab->Prop}{St:Nat->Ao->Prop}
def sN (h0 h:Ao):Prop:=∀b o,h0.get? b=some o->h.get? b=some o
def zD0 (prog:Ag)(w:Ai)(A:Am)(h0:Ao)(P:Nat->Ab->Prop)(bt:Nat->Nat->Bool):Prop:=
 ∀i j x y (s:Ad) (Q:Ab->Ad->Prop) (E:Ab->Ad->Prop),P i x->P j y->sN h0 s.heap->Q (.bool (bt i j)) s->Aj (Al prog w) A (richCompare .Lt x y) Q E s
theorem fb (h0:Ao)(W:Walks prog w A.in1 it fp wr m P St)(bt:Nat->Nat->Bool)(E:zD0 prog w A.in1 h0 P bt)(D:Ae)(v:D∉fp)(u:h0.get? D=none)(r:∀b∈wr,h0.get? b=none):
  ∀(k j:Nat) (s:Ad) (x:Ab) (c:Nat),m-(j+1)=k->j+1<=m->St (j+1) s.heap->sN h0 s.heap->P (argBest bt j) x->
  s.heap.get? D=some {cls:=.type "list",dict:=none,data:=.seq #[x,x] c,slots:=#[]}->
  (∀y h' p,P (argBest bt (m-1)) y->(∀b o,b∉wr->b≠D->s.heap.get? b=some o->h'.get? b=some o)->R (.ok (.ret y)) {s with heap:=h',toks:=p})->
  codeAny (Al prog w) A (.builtin "min.loop" ⟨[.ref it,.none,.ref D],[]⟩) R s:=by
 have h:D∉wr:=λq=>v (W.sub _ q);have nm:(toString "min"++toString ".loop":String)="min.loop":=by decide
 intro k;induction k with
 |zero=>
  intro j s x c hk C st kp px i n;have e:=(zt5 hk C);refine yf2 yg8 ?_;rw[yc0 z82 _];refine zZ3 (z76 i rfl ?_);show Aj _ A.in1 (tryCatch (pyNext (.ref it)) _ >>= _) _ _ s;refine zZ3 (wpAny_tryCatch (W.done s _ _ (e▸st) λh' p a=>?_));refine zZ3 (z95 (a D _ h i) rfl (zZ3 (yb0 (z02 ?_))));exact n x _ p (by rw[<-e];exact px) λb o h1 h2 q=>(z35 _ _ (z42 h2)).trans (a b o h1 q)
 |succ k B=>
  intro j s x c hk C st kp px i n;have lt:=(zv7 hk);refine yf2 yg8 ?_;rw[yc0 z82 _];refine zZ3 (z76 i rfl ?_);show Aj _ A.in1 (tryCatch (pyNext (.ref it)) _ >>= _) _ _ s;refine zZ3 (wpAny_tryCatch (W.item (j+1) s _ _ lt st λy h' p py l a=>?_));have d:=a D _ h i;have g:sN h0 h':=λb o q=>a b o (λz=>by rw[r b z]at q;cases q) (kp b o q);show Aj _ A.in1 (tryCatch (holding [y,y] (richCompare .Lt y x >>= _)) _ >>= _) _ _ _;refine zZ3 (wpAny_tryCatch (z72 (zZ3 (E (j+1) (argBest bt j) y x _ _ _ py px g (zZ3 (z72 (z50 (zZ3 (yb0 (z02 ?_))))))))));cases hb:bt (j+1) (argBest bt j)with
  |true=>
   simp only[yc1];refine zZ3 (z95 d rfl (zZ3 (yb0 ?_)));rw[nm];refine z02 ⟨yb7 z82 _,B (j+1) _ y _ (bz hk) lt (W.frame _ _ _ l λb hf o q=>?_) (λb o q=>?_) (by simp only[argBest,hb,yc1];exact py) (yd3 _ d rfl) λz h2 f t kz=>?_⟩
   .exact(z35 _ _ (λz:D=b=>v (by rw[z];exact hf))).trans q
   .exact(z35 _ _ (λz:D=b=>by rw[<-z,u]at q;cases q)).trans (g b o q)
   .exact n z h2 f t λb o h1 h3 q=>kz b o h1 h3 ((z35 _ _ (z42 h3)).trans (a b o h1 q))
  |false=>
   simp only[z52,z87];refine zZ3 (yb0 ?_);rw[nm];refine z02 ⟨yb7 z82 _,B (j+1) _ x c (bz hk) lt l g (by simp only[argBest,hb,z52,z87];exact px) d λz h2 f t kz=>?_⟩;exact n z h2 f t λb o h1 h3 q=>kz b o h1 h3 (a b o h1 q)
def lA (h0:Ao)(W:Walks prog w A.in1 it fp wr m P St)(bt:Nat->Nat->Bool)(p:zD0 prog w A.in1 h0 P bt)(D:Ae)(g:D∉fp)(e:h0.get? D=none)(d:∀b∈wr,h0.get? b=none)(hm:0<m){s:Ad}{c:Nat}(st:St 0 s.heap)(kp:sN h0 s.heap)
  (l:s.heap.get? D=some {cls:=.type "list",dict:=none,data:=.seq #[] c,slots:=#[]})
  (r:∀y h' n,P (argBest bt (m-1)) y->(∀b o,b∉wr->b≠D->s.heap.get? b=some o->h'.get? b=some o)->R (.ok (.ret y)) {s with heap:=h',toks:=n}):
  codeAny (Al prog w) A (.builtin "min.loop" ⟨[.ref it,.none,.ref D],[]⟩) R s:=by
 have f:D∉wr:=λq=>g (W.sub _ q);have nm:(toString "min"++toString ".loop":String)="min.loop":=by decide
 refine yf2 yg8 ?_;rw[yc0 z82 _];refine zZ3 (z76 l rfl ?_);show Aj _ A.in1 (tryCatch (pyNext (.ref it)) _ >>= _) _ _ s;refine zZ3 (wpAny_tryCatch (W.item 0 s _ _ hm st λy h' n py j h=>?_));have a:=h D _ f l;have k:sN h0 h':=λb o q=>h b o (λz=>by rw[d b z]at q;cases q) (kp b o q);show Aj _ A.in1 (updateSeq D (λ_=>#[y,y]) >>= _) _ _ _;refine zZ3 (z95 a rfl ?_);rw[nm];refine z02 ⟨yb7 z82 _,fb h0 W bt p D g e d _ 0 _ y _ rfl hm (W.frame _ _ _ j λb hf o q=>?_) (λb o q=>?_) py (yd3 _ a rfl) λz h2 i t kz=>?_⟩
 .exact(z35 _ _ (λz:D=b=>g (by rw[z];exact hf))).trans q
 .exact(z35 _ _ (λz:D=b=>by rw[<-z,e]at q;cases q)).trans (k b o q)
 .exact r z h2 i t λb o h1 h3 q=>kz b o h1 h3 ((z35 _ _ (z42 h3)).trans (h b o h1 q))
end
section
variable {prog:Ag}{w:Ai}{A:Am}{E:Ab->Ad->Prop}{s:Ad}
def gr {l:Ae}{items:Array Ab}{bt:Nat->Nat->Bool}{Q:Ab->Ad->Prop}(g:A.handled=none)(c:s.heap.IsList l items)(h0:0<items.size)(h:zD0 prog w A.in1 s.heap (λi v=>items[i]?=some v) bt)
  (j:∀v h' d,items[argBest bt (items.size-1)]?=some v->sN s.heap h'->Q v {s with heap:=h',toks:=d}):Aj (Al prog w) A (call (.builtin "min") [.ref l]) Q E s:=by
 have nm:(toString "min"++toString ".loop":String)="min.loop":=by decide
 have a:l<s.heap.objs.size:=by obtain⟨_,e,_⟩:=c;exact z07 e
 refine call_function_tree PySem.F.kind_min PySem.F.plain_min PySem.F.entry_min (PySem.F.args_min1 _) ?_;refine zZ3 (wpAny_of_eq (show Builtin.Builtins.bindParams "min" ["key","default"] 0 ⟨[],[]⟩=pure [none,none]from rfl) (zZ3 (z02 (zZ3 (z93 c ?_)))));refine zZ3 (yb8 ?_);rw[nm];have W:=Walks.list (prog:=prog) (w:=w) (A:=A.in1) g s.heap.objs.size l (z30 a) items;have up:sN s.heap ((s.heap.push {cls:=.type "list_iterator",data:=.fields #[.ref l,.int 0 0]}).push {cls:=.type "list",data:=.seq #[]}):=λb o e=>zZ4 _ (zZ4 _ e);have sz:(s.heap.push {cls:=.type "list_iterator",data:=.fields #[.ref l,.int 0 0]}).objs.size=s.heap.objs.size+1:=z81 _ _;refine z02 ⟨yb7 z82 _,lA s.heap W bt h _ (λq=>?_) (Heap.get?_none_of_le (by rw[sz];exact ya1 _)) (λb hb=>?_) h0 (W.frame 0 (s.heap.push {cls:=.type "list_iterator",data:=.fields #[.ref l,.int 0 0]}) _ ⟨⟨_,z08 _ rfl,rfl,rfl⟩,c.push _⟩ λb _ o e=>zZ4 _ e) up (z08 _ rfl) λv h' d pv f=>?_⟩
 .rcases zZ9.mp q with z|z
  .rw[sz]at z;exact absurd z (Nat.succ_ne_self _)
  .rw[z06,sz]at z;exact absurd a (by rw[<-z];exact Nat.not_lt.mpr (ya1 _))
 .rw[z06.mp hb];exact Heap.get?_none_of_le (zZ8 _)
 .refine j v h' d pv λb o e=>f b o (λz=>?_) (λz=>?_) (up b o e)
  .rw[z06.mp z]at e;exact absurd (z07 e) (z56 _)
  .have:=z07 e;rw[z,sz]at this;exact absurd this (Nat.not_lt.mpr (ya1 _))
end
noncomputable def sL (ds:List Aa)(i j:Nat):Bool:=match ds[i]?,ds[j]? with
 |some x,some y=>(ltD x y).getD false
 |_,_=>false
noncomputable def minD :List Aa->Aa
 |[]=>.none
 |d::ds=>ds.foldl (λb x=>if(ltD x b).getD false=true then x else b) d
def kQ (d:Aa)(ds:List Aa)(x:Aa):minD (d::(ds++[x]))=if(ltD x (minD (d::ds))).getD false=true then x else minD (d::ds):=by
 show List.foldl _ d (ds++[x])=_;rw[List.foldl_append];rfl
def ml {ds:List Aa}{i j:Nat}{x y:Aa}(h1:ds[i]?=some x)(h2:ds[j]?=some y):sL ds i j=(ltD x y).getD false:=by
 unfold sL;rw[h1,h2]
theorem ze8 (ds:List Aa):∀k,k<ds.length->ds[argBest (sL ds) k]?=some (minD (ds.take (k+1))):=by
 intro k
 induction k with
 |zero=>
  intro h;cases ds with
  |nil=>simp at h
  |cons d ds=>simp[argBest,minD]
 |succ k f=>
  intro h;have a:=f (z29 (z23 _ _) h);cases ds with
  |nil=>simp at h
  |cons d ds=>
   have c:=zZ5 h;have e:(d::ds).take (k+1+1)=d::(ds.take k++[(d::ds)[k+1]]):=by
    have hk:k<ds.length:=by simpa using h
    rw[ye8,z75,zZ5 hk];rfl
   have b:(d::ds).take (k+1)=d::ds.take k:=ye8;rw[e,kQ,<-b];simp only[argBest];rw[(ml c a)];split
   .exact c
   .exact a
theorem uG {X:Cx}{pins:List (Ae×Obj)}{B:St}{H:Hp}{s:Ad}(I:Inv X pins B H s):∀{xs:List V}{ds:List Aa}{us:List Ab}{i:Nat}{d:Aa},DVs H xs ds->Vals xs us->ds[i]?=some d->∃u as,us[i]?=some u/\Reads s.heap u d as
 |_,_,_,_,_,.nil,_,e=>by simp at e
 |_,_,_,i,d,.cons hx hs,.cons (b:=u) ru rs,e=>by
  cases i with
  |zero=>
   simp at e;subst e;obtain⟨as,a⟩:=hx.reads I ru;exact⟨u,as,rfl,a⟩
  |succ i=>
   obtain⟨c,as,h1,h2⟩:=uG I hs rs (by simpa using e);exact⟨c,as,by simpa using h1,h2⟩
def zE1 (ds:List Aa):Prop:=∀x∈ds,∀y∈ds,(ltD x y).isSome=true
section
variable {X:Cx}{L:Ev}{e:Ak}{pos p:Pos}{Q:Aa->Prop}
def eV (C:X.calm=true)(W:X.A.units+70<cLine):yt X (.builtin "min") (λxs H Q=>∃(l:Ae) (vs:List V) (ds:List Aa),xs=[.ref l]/\H l=some (.lst vs)/\DVs H vs ds/\ds≠[]/\zE1 ds/\(∀d∈ds,d.canLay0=true/\d.depth<=60)/\∀(i:Nat) (v:V),vs[i]?=some v->ds[i]?=some (minD ds)->Q v H):=by
 intro pins s B H xs us Q I r h;obtain⟨l,vs,ds,rfl,K,dv,ne,R,z,q⟩:=h;obtain⟨u,rfl,G⟩:=vals1 r;cases G;obtain⟨b,c,pl,Y⟩:=I.list (SqL.of K);have l1:=c.length;have l2:=dv.length;have h0:=List.length_pos_iff.mpr ne;refine gr (bt:=sL ds) (I.ok.hd C) pl.isList (by simp;exact zZ7 h0 (z26 (Eq.trans l2.symm l1))) ?_ λv h' Z t kp=>?_
 .intro i j x y s2 S U n hy kp D;have hi:i<ds.length:=by have:=(Array.getElem?_eq_some_iff.mp n).1;simp at this;exact zZ7 this (z26 (Eq.trans l1.symm l2))
  have k:j<ds.length:=by have:=(Array.getElem?_eq_some_iff.mp hy).1;simp at this;exact zZ7 this (z26 (Eq.trans l1.symm l2))
  have o:=zZ5 hi;have w:=zZ5 k;obtain⟨F,J,g1,g2⟩:=uG I dv c o;obtain⟨M,O,g3,P⟩:=uG I dv c w;have e1:F=x:=by have:=n;simp at this;rw[g1]at this;exact z34 this
  have E:M=y:=by have:=hy;simp at this;rw[g3]at this;exact z34 this
  subst e1 E;obtain⟨m,a⟩:=yf6.mp (R _ (z69 hi) _ (z69 k));have f:=z _ (z69 hi);refine qI ds[i] ds[j] X.A.in1 s2 (by show X.A.units+1+_<cLine;lia) _ _ _ _ m (Reads.keeps kp g2) (Reads.keeps kp P) f.1 (z _ (z69 k)).1 a _ _ _ _ ?_;have:sL ds i j=m:=by rw[ml o w,a];rfl
  rw[<-this];exact D
 .have hb:=ze8 ds (ds.length-1) (rP h0);have N:b.toArray.size-1=ds.length-1:=by simp;lia
  rw[N]at t;rw[show ds.length-1+1=ds.length by omega,z80]at hb;have g:b[argBest (sL ds) (ds.length-1)]?=some v:=by simpa using t
  have hi:argBest (sL ds) (ds.length-1)<vs.length:=by have:=(zZ6.mp hb).1;exact zZ7 this (z26 l2.symm)
  obtain⟨T,g1,g2⟩:=c.get (zZ5 hi);rw[g]at g1;cases g1;exact⟨_,H,I.kept kp,g2,q _ _ (zZ5 hi) hb⟩
def zn6 (c:X.calm=true)(f:X.A.units+70<cLine)(hg:Gl X "min")(hm:X.mg "min"=none)(h:EvD X L e λx=>∃ds,x=.list ds/\ds≠[]/\PyData.hasDictAll ds=false/\zE1 ds/\(∀d∈ds,d.canLay0=true/\d.depth<=60)/\Q (minD ds))(he:Af [e] X.env=(false,eval e X.env)::Af [] X.env:=by rfl):
  EvD X L (.Call (.Name "min" p) [e] [] pos) Q:=by
 refine xy (eV c f) hg hm boot_min (zk (h.imp λx b=>?_) he) (he:=he);obtain⟨ds,e1,ne,nd,n,l,q⟩:=b;refine zA ?_;intro F B H vs R m j k;subst e1;obtain⟨v,rfl,av⟩:=j.one;obtain⟨a,xs,rfl,h1,h2⟩:=av.lst_inv;refine⟨a,xs,ds,rfl,(zc h1).2,(h2.dv nd).same xD,ne,n,l,λi v g hd=>?_⟩;obtain⟨o,g1,g2⟩:=h2.get hd;rw[g]at g1;cases g1;exact k _ _ H q m.tp Kz.refl g2
noncomputable def uT :List Int->Int
 |[]=>0
 |z::zs=>zs.foldl (λb x=>if b<x then x else b) z
def fU (d:Int)(ds:List Int)(x:Int):uT (d::(ds++[x]))=if uT (d::ds)<x then x else uT (d::ds):=by
 show List.foldl _ d (ds++[x])=_;rw[List.foldl_append];rfl
noncomputable def zn2 (zs:List Int)(i j:Nat):Bool:=decide (zs.getD i 0 > zs.getD j 0)
def zn1 {zs:List Int}{i j:Nat}{x y:Int}(h1:zs[i]?=some x)(h2:zs[j]?=some y):zn2 zs i j=decide (y<x):=by
 unfold zn2;rw[z00,z00,h1,h2];rfl
theorem ar (zs:List Int):∀k,k<zs.length->zs[argBest (zn2 zs) k]?=some (uT (zs.take (k+1))):=by
 intro k
 induction k with
 |zero=>
  intro h;cases zs with
  |nil=>simp at h
  |cons d ds=>simp[argBest,uT]
 |succ k g=>
  intro h;have a:=g (z29 (z23 _ _) h);cases zs with
  |nil=>simp at h
  |cons d ds=>
   have c:=zZ5 h;have f:(d::ds).take (k+1+1)=d::(ds.take k++[(d::ds)[k+1]]):=by
    have hk:k<ds.length:=by simpa using h
    rw[ye8,z75,zZ5 hk];rfl
   have b:(d::ds).take (k+1)=d::ds.take k:=ye8;rw[f,fU,<-b];simp only[argBest];rw[(zn1 c a)];by_cases z:uT ((d::ds).take (k+1))<(d::ds)[k+1]
   .rw[z39 z,if_pos rfl,if_pos z];exact c
   .rw[z38 z,if_neg (by decide),if_neg z];exact a
def fe (k:X.calm=true):yt X (.builtin "max") (λxs H Q=>∃(l:Ae) (zs:List Int),xs=[.ref l]/\H l=some (.lst (zs.map V.int))/\zs≠[]/\Q (.int (uT zs)) H):=by
 intro pins s B H xs us Q I r h;obtain⟨l,zs,rfl,n,ne,q⟩:=h;obtain⟨u,rfl,m⟩:=vals1 r;cases m;obtain⟨a,g,pl,y⟩:=I.list (SqL.of n);have l1:=g.length;rw[zZ2]at l1;have h0:=List.length_pos_iff.mpr ne;have c:l<s.heap.objs.size:=by obtain⟨_,e,_⟩:=pl.isList;exact z07 e
 have val:∀i v,a.toArray[i]?=some v->∃t,v=Value.int (zs.getD i 0) t:=λi v f=>by
  have d:a[i]?=some v:=by simpa using f
  have hi:i<(zs.map V.int).length:=by rw[zZ2,l1];exact(zZ6.mp d).1
  obtain⟨x,g1,g2⟩:=g.get (zZ5 hi);rw[d]at g1;cases g1;rw[List.getElem_map]at g2;obtain⟨t,rfl⟩:=g2;refine⟨t,?_⟩;rw[zZ2]at hi;rw[z00,zZ5 hi];rfl
 refine call_max_walk (z93 pl.isList ⟨s.heap.objs.size,[s.heap.objs.size,l],[s.heap.objs.size],_,_,_,zn2 zs,rfl,Walks.list (A:=X.A.in1) (I.ok.hd k) s.heap.objs.size l (z30 c) a.toArray,⟨⟨_,z08 _ rfl,rfl,rfl⟩,pl.isList.push _⟩,λb hb=>?_,by simp;exact zZ7 h0 (z26 l1),CmpOf.ints_gt (λi=>zs.getD i 0) val,λv h' C f j=>?_⟩)
 .rw[z81];rcases zZ9.mp hb with z|z
  .rw[z];exact z64 _
  .rw[z06.mp z];exact yg4 c
 .obtain⟨t,rfl⟩:=val _ _ f;have hb:=ar zs (zs.length-1) (rP h0);rw[show zs.length-1+1=zs.length by omega,z80]at hb;have w:a.toArray.size-1=zs.length-1:=by simp;lia
  rw[w];refine⟨.int (uT zs),H,I.kept (λb o e=>j b o (λz=>?_) (zZ4 _ e)),⟨t,?_⟩,q⟩
  .rw[z06.mp z]at e;exact absurd (z07 e) (z56 _)
  .rw[z00,hb];rfl
theorem AVs.intsV {H:Hp}{xs:List V}{zs:List Int}(h:AVs H xs (zs.map .int)):xs=zs.map V.int:=by
 induction zs generalizing xs with
 |nil=>cases h;rfl
 |cons n ns b=>cases h with
  |cons h a=>rw[z27,b a,h.int_inv]
def zp8 (c:X.calm=true)(hg:Gl X "max")(hm:X.mg "max"=none)(h:EvD X L e λx=>∃zs:List Int,x=.list (zs.map .int)/\zs≠[]/\Q (.int (uT zs)))(he:Af [e] X.env=(false,eval e X.env)::Af [] X.env:=by rfl):
  EvD X L (.Call (.Name "max" p) [e] [] pos) Q:=by
 refine xy (fe c) hg hm boot_max (zk (h.imp λx b=>?_) he) (he:=he);obtain⟨zs,e1,ne,q⟩:=b;refine zA ?_;intro F B H vs R m d k;subst e1;obtain⟨v,rfl,av⟩:=d.one;obtain⟨a,xs,rfl,h1,h2⟩:=av.lst_inv;have h3:=(zc h1).2;rw[h2.intsV]at h3;exact⟨a,zs,rfl,h3,ne,k _ _ H q m.tp Kz.refl (.int _)⟩
end
def jg :typeLookup (.type "list_reverseiterator") "__len__"=pure none:=by rw[yj1,yd6];kernel_rfl
def zb2 :typeLookup (.type "list_reverseiterator") "__length_hint__"=pure (some (.builtin "list_reverseiterator.__length_hint__")):=by rw[yj1,yd6];kernel_rfl
section
variable {prog:Ag}{w:Ai}{A:Am}{E:Ab->Ad->Prop}{s:Ad}{it l:Ae}{items:Array Ab}
def zd1 {Q:Bool->Ad->Prop}(c:s.TypeIs (.ref it) "list_reverseiterator")(h:Q false s):Aj (Al prog w) A (Builtin.List.listLengthHint (.ref it)) Q E s:=by
 unfold Builtin.List.listLengthHint;refine zZ3 (yf0 c jg ?_);refine zZ3 (yf0 c zb2 ?_);generalize a:("list_reverseiterator.__length_hint__":String)=id0
 wp_delta
 rw[show splitId id0=some ("list_reverseiterator","__length_hint__")from by subst a;decide +kernel];subst a;refine zZ3 (wpAny_isInstance (b:=true) c (by rw[isSubtype_type];kernel_rfl) ?_);refine yc6 (λq=>absurd q (by decide)) λ_=>yc6 (λ_=>?_) λq=>absurd (by decide +kernel) q;exact yc6 (λq=>absurd q (by decide +kernel)) λ_=>z02 h
def qv {Q:Ab->Ad->Prop}(J:A.handled=none)(hne:l≠it)(hr:s.heap.IsRevIter it l ((items.size:Int)-1))(D:s.heap.IsList l items)(hn:items.size<=sizeLine)
  (G:∀h' u acc c,(∀b o,b≠it->s.heap.get? b=some o->h'.get? b=some o)->h'.get? s.heap.objs.size=some {cls:=.type "list",dict:=none,data:=.seq acc c,slots:=#[]}->ItemsOf (λi v=>items[items.size-1-i]?=some v) acc items.size->Q (.ref s.heap.objs.size) {s with heap:=h',toks:=u}):
  Aj (Al prog w) A (call (.type "list") [.ref it]) Q E s:=by
 refine callType_codes (Q₁:=λobj f=>obj=.ref s.heap.objs.size/\f={s with heap:=s.heap.push {cls:=.type "list",data:=.seq #[]}}) PySem.F.called_list (PySem.F.typeCall_list_1 _) PySem.F.entry_list_init
  (code_list_new _ ⟨rfl,rfl⟩) λobj f m=>?_
 obtain⟨rfl,rfl⟩:=m;generalize d:s.heap.objs.size=S at G ⊢;have t:(s.heap.push {cls:=.type "list",data:=.seq #[]}).get? S=some {cls:=.type "list",data:=.seq #[]}:=by rw[<-d];exact z08 _ rfl
 have up:∀b o,s.heap.get? b=some o->(s.heap.push {cls:=.type "list",data:=.seq #[]}).get? b=some o:=λb o e=>zZ4 _ e;have B:it≠S:=by obtain⟨o,e,_⟩:=id hr;rw[<-d];exact z30 (z07 e)
 have I:l≠S:=by obtain⟨o,e,_⟩:=id D;rw[<-d];exact z30 (z07 e)
 have p:∀{b:Ae} {o:Obj},s.heap.get? b=some o->b≠S:=λe=>by rw[<-d];exact z30 (z07 e)
 have x:S∉[it,l]:=by simp only[zZ9,z31,z57,not_or];exact⟨z42 B,z42 I⟩
 refine⟨⟨_,t,rfl⟩,PySem.F.args_list_init_2 _ _,?_⟩;show Aj _ _ (do let old <-Builtin.List.listItems (.ref S);Builtin.List.listUpdate (.ref S) (λ_=>#[]);letGo old.toList.reverse;Builtin.List.listExtendWith (.ref S) (.ref it) .none) _ _ _;refine zZ3 ?_;unfold Builtin.List.listItems;refine zZ3 (z76 t rfl (z02 ?_));refine zZ3 (z95 t rfl ?_);obtain⟨N,j⟩:∃M,((s.heap.push {cls:=.type "list",data:=.seq #[]}).update S (Obj.mapSeq (λ_=>(#[]:Array Ab)))).get? S=some {cls:=.type "list",dict:=none,data:=.seq #[] M,slots:=#[]}:=⟨_,ya3 t λ_=>#[]⟩;have g:∀b o,s.heap.get? b=some o->((s.heap.push {cls:=.type "list",data:=.seq #[]}).update S (Obj.mapSeq (λ_=>(#[]:Array Ab)))).get? b=some o:=
  λb o e=>(z35 _ _ (z42 (p e))).trans (up b o e)
 refine zZ3 (yb0 ?_);have C:({s with heap:=(s.heap.push {cls:=.type "list",data:=.seq #[]}).update S (Obj.mapSeq (λ_=>(#[]:Array Ab)))}:Ad).TypeIs (.ref it) "list_reverseiterator":=Heap.IsRevIter.typeIs (hr.at λo e=>g _ o e);unfold Builtin.List.listExtendWith;refine zZ3 (wpAny_typeOf C ?_);have K:Builtin.List.listSameRef (.ref S) (.ref it)=false:=by simp[Builtin.List.listSameRef];exact z42 B
 have H:(Value.type "list_reverseiterator" == Value.type "list")=false:=by decide
 have L:(Value.type "list_reverseiterator" == Value.type "tuple")=false:=by decide
 simp only[K,H,L,ye3,z52,z87];refine zZ3 (wpAny_pyIter_revIter (hr.at λo e=>g _ o e) (zZ3 (z72 (zd1 C ?_))));have key:∀h c₁ u,h.get? S=some {cls:=.type "list",dict:=none,data:=.seq #[] c₁,slots:=#[]}->(∀b o,s.heap.get? b=some o->h.get? b=some o)->codeAny (Al prog w) A.in1 (.builtin "list.extend.loop" ⟨[.ref S,.ref it,.none],[]⟩) (wants (λv s'=>v=.none/\Q (.ref S) s') E) {s with heap:=h,toks:=u}:=by
  intro h c₁ u y a;refine codeAny_extend_loopS (Walks.listRev (A:=A.in1.in1) J it l hne items).toS hn S x .none items.size 0 _ #[] c₁ rfl (z21 _) ⟨z21 _,by simpa using hr.at λo e=>a _ o e,D.at λo e=>a _ o e⟩ y (ItemsOf.nil _) λs' r c' hm n k=>?_;rw[Moved.eq_with hm];refine⟨rfl,G s'.heap s'.toks r c' (λb o hb e=>hm.heap b o (λz=>?_) (a b o e)) n k⟩;rcases zZ9.mp z with z|z
  .exact p e z
  .exact hb (z06.mp z)
 refine yc6 (λq=>absurd q (by decide)) (λ_=>z02 ⟨yb7 z85 _,key _ _ _ j g⟩)
end
section
variable {X:Cx}{L:Ev}{a e c:Ak}{p p0 pos pos2:Pos}{Q:List Aa->Prop}
def kN {J:TA}(T:X.calm=true)(hgl:Gl X "list")(r:X.mg "list"=none)(hg:Gl X "reversed")(hm:X.mg "reversed"=none)(ha:PA X [a] J)
  (k:Af [.Call (.Name "reversed" p) [a] [] pos2] X.env=[(false,eval (.Call (.Name "reversed" p) [a] [] pos2) X.env)]:=by rfl) (O:Af [a] X.env=[(false,eval a X.env)]:=by rfl):
  PE X (.Call (.Name "list" p0) [.Call (.Name "reversed" p) [a] [] pos2] [] pos) (λB H Q=>J B H λvs H1=>∃(l:Ae) (xs:List V),vs=[.ref l]/\SqL X.K H1 l xs/\∀D,H1 D=none->Q (.ref D) (upd H1 D (.lst xs.reverse))):=by
 intro pins s B H Q I h;refine Call_ (yR I hgl r boot_list (z45 ?_ k rfl));rw[k];refine Calls.spliced_cons ?_;refine Call_ (yR I hg hm boot_reversed (z45 (thn (ha pos2 pins s B H _ I h) λus s1 t=>?_) O rfl));obtain⟨vs,H1,i,U,M⟩:=t;obtain⟨l,xs,rfl,hq,q⟩:=M;obtain⟨u,rfl,Y⟩:=Vals.one U;cases(Y);obtain⟨d,F,pl,G⟩:=i.list hq;have hlen:=F.length;have v:l<s1.heap.objs.size:=by obtain⟨o,e,_⟩:=pl.isList;exact z07 e
 refine call_reversed_list pl.isList (Calls.spliced_nil ?_);generalize m:s1.heap.objs.size=it;have C:Inv X pins B H1 {s1 with heap:=s1.heap.push (revObj l ((d.toArray.size:Int)-1))}:=i.kept λb o e=>zZ4 _ e;have fI:∀H',H' it=none->xg X pins H' it:=λH' hn=>by rw[<-m]at hn ⊢;exact i.fpOk (zZ8 _) hn
 have N:H1 it=none:=by rw[<-m];exact i.hok.fresh (zZ8 _)
 refine qv (i.ok.hd T) (by rw[<-m];exact z30 v) (by rw[<-m];exact⟨_,z08 _ rfl,rfl,rfl⟩) (pl.isList.push _) (by simp;exact z05 (z26 hlen.symm) G) λh' Z acc c kp e E=>?_;generalize S:({s1 with heap:=s1.heap.push (revObj l ((d.toArray.size:Int)-1))}:Ad).heap.objs.size=D at e ⊢;have f:(s1.heap.push (revObj l ((d.toArray.size:Int)-1))).objs.size<=D:=by rw[<-S];exact zZ8 _
 refine⟨.ref D,upd H1 D (.lst xs.reverse),?_,rfl,q D (C.hok.fresh f)⟩;refine C.turnLay (ch:=[it]) (λb o hb e=>kp b o (by simpa using hb) e) (λb hb=>by rw[z06.mp hb];exact fI H1 N) f ⟨by rw[z63];exact G,acc.toList,c,?_,by simpa using e⟩;have key:∀{as:List V} {bs:List Ab},as.length=bs.length->(∀(j:Nat) x,as[j]?=some x->∃u,bs[j]?=some u/\RelV x u)->Vals as bs:=by
  intro as
  induction as with
  |nil=>intro bs h1 _;cases bs with|nil=>exact .nil|cons _ _=>simp at h1
  |cons x as W=>
   intro bs h1 h2;cases bs with
   |nil=>simp at h1
   |cons y bs=>
    obtain⟨u,A,P⟩:=h2 0 x rfl;simp at A;subst A;exact .cons P (W (by simpa using h1) λj R g=>by simpa using h2 (j+1) R (by simpa using g))
 have sa:acc.size=xs.length:=by rw[E.1];simp;exact hlen.symm
 refine key (by rw[z63];exact sa.symm) λj x g=>?_;have n:j<xs.length:=by have:=(zZ6.mp g).1;rwa [z63]at this
 rw[yh9 n]at g;obtain⟨u,g1,g2⟩:=F.get g;have z:d.toArray[d.toArray.size-1-j]?=some (acc[j]'(by omega)):=E.2 j (acc[j]'(by omega)) (by simp[show j<acc.size by omega]);refine⟨acc[j]'(zZ7 n (z26 sa.symm)),by simp[show j<acc.size by exact zZ7 n (z26 sa.symm)],?_⟩;have e1:d.toArray.size-1-j=xs.length-1-j:=by simp;omega
 rw[e1]at z;have w:d[xs.length-1-j]?=some (acc[j]'(zZ7 n (z26 sa.symm))):=by simpa using z
 rw[g1]at w;rw[<-z34 w];exact g2
theorem AVs.reverse {H:Hp}{xs:List V}{ds:List Aa}(h:AVs H xs ds):AVs H xs.reverse ds.reverse:=by
 induction h using AVs.ind with
 |nil=>exact .nil
 |cons h _ b=>rw[ya5,ya5];exact b.append (.cons h .nil)
def lI (o:X.calm=true)(hgl:Gl X "list")(d:X.mg "list"=none)(hg:Gl X "reversed")(hm:X.mg "reversed"=none)(h:EvD X L a λx=>∃ds,x=.list ds/\Q ds.reverse)
  (f:Af [.Call (.Name "reversed" p) [a] [] pos2] X.env=[(false,eval (.Call (.Name "reversed" p) [a] [] pos2) X.env)]:=by rfl) (g:Af [a] X.env=[(false,eval a X.env)]:=by rfl):
  EvL X L (.Call (.Name "list" p0) [.Call (.Name "reversed" p) [a] [] pos2] [] pos) Q:=λF B H R m k=>by
 refine⟨_,kN o hgl d hg hm (zr zf zD g) f g,h F B H _ m λx u H1 j t1 b t=>?_⟩;obtain⟨ds,rfl,q⟩:=j;obtain⟨l,xs,rfl,g1,g2⟩:=t.lst_inv;refine⟨l,xs,rfl,SqL.of (zc g1).2,λD i=>?_⟩;obtain⟨r,s,n⟩:=(m.kz b t1).lay i g2.reverse;exact k _ _ _ q r (b.trans s) (n.back m b t1)
theorem dS {body rest:List An}{E:xf}(C:PassesOwn (Al X.prog X.w) X.A X.env X.xe)(P:Nat->Ev->Prop)(t:Nat)(h0:P t L)
  (z:∀n L,P n L->EvT X L c λb=>if b=true then SvS X L body {nx:=λd=>∃f,f<n/\P f d,ct:=λd=>∃f,f<n/\P f d,bk:=λd=>SvS X d rest E,rt:=E.rt}else SvS X L rest E):
  SvS X L (.While c body [] pos::rest) E:=λF B H D m r=>by
 refine⟨_,zJ (nL C xv zY) zY,⟨λn g H'=>∃d,M F d g H'/\P n d,⟨t,L,m,h0⟩,?_⟩⟩;rintro n g H' ⟨d,u,x⟩;refine z n d x F g H' _ u λb H1 q t1 v=>?_;have m1:=u.kz v t1;cases b with
 |true=>
  rw[if_pos rfl]at q ⊢;refine⟨λi k=>∃f,f<n/\∃j,M F j i k/\P f j,λi k ⟨f,h1,h2⟩=>⟨f,h1,h2⟩,?_⟩;exact q F g H1 _ m1 ⟨λh σ2 s m2 o=>by obtain⟨f,h1,h2⟩:=o;exact⟨f,h1,h,m2,h2⟩,r.rt,λh σ2 s m2 y=>y F σ2 s D m2 r,λh σ2 s m2 l=>by obtain⟨f,h1,h2⟩:=l;exact⟨f,h1,h,m2,h2⟩⟩
 |false=>
  rw[if_neg (by decide)]at q ⊢;exact q F g H1 D m1 r
end
def tK (Q:Aa->Prop):List Aa->Prop
 |[]=>True
 |d::r=>Q d/\tK Q r
theorem tK.mem {Q:Aa->Prop}:∀{ds:List Aa},tK Q ds->∀d∈ds,Q d
 |[],_,d,h=>by cases h
 |x::r,h,d,hd=>by
  rcases zZ9.mp hd with rfl|hd
  .exact h.1
  .exact tK.mem h.2 d hd
def zj0 {x:Aa}{ds:List Aa}{v:Int}{Q:Aa->Prop}(a:wD x=some ds)(h0:0<=v)(h1:v<ds.length)(h:tK Q ds):∃ds i d,wD x=some ds/\PyData.int v=.int i/\atI ds i=some d/\Q d:=by
 obtain⟨d,hd,e⟩:=zx4 h0 h1;exact⟨ds,v,d,a,rfl,e,h.mem d hd⟩
def aZ {x:Aa}{ds:List Aa}{v:Int}{Q:Aa->Prop}(P:Aa->Prop)(a:wD x=some ds)(h0:0<=v)(h1:v<ds.length)(h:tK P ds)(k:∀d,P d->Q d):∃ds i d,wD x=some ds/\PyData.int v=.int i/\atI ds i=some d/\Q d:=by
 obtain⟨d,hd,e⟩:=zx4 h0 h1;exact⟨ds,v,d,a,rfl,e,k d (h.mem d hd)⟩
theorem yh {k:Bool}{p q:Prop}(h1:k=true->p)(h2:k=false->q):if k=true then p else q:=by
 cases k with
 |true=>exact h1 rfl
 |false=>exact h2 rfl
def xJ {i j:Int}:PyData.eqv (.int i) (.int j)=decide (i=j):=by
 show(i == j)=_;by_cases h:i=j<;>simp[h]
def zr4 {i j:Str}:PyData.eqv (.str i) (.str j)=decide (i=j):=by
 show(i == j)=_;by_cases h:i=j<;>simp[h]
section
variable {X:Cx}{L:Ev}{e a b:Ak}{pos p:Pos}{E:xf}{rest:List An}
def EvR (X:Cx)(L:Ev)(e:Ak)(Q:Aa->Prop):Prop:=∀(F:Fr) (B:St) (H:Hp) (R:VK),M F L B H->(∀d v H',Q d->zK F H'->Kz F H H'->AV (sub (λx=>¬F.O0 x/\∀xs,F.H0 x≠some (.lst xs)) H') v d->R v H')->uj X e B H R
def ke {Q:Aa->Prop}(h:EvD X L e λd=>noL d=true/\Q d):EvR X L e Q:=λF B H R m k=>h F B H R m λd v H' q t kz r=>k d v H' q.2 t kz (r.noL (λx o g z=>by
 obtain⟨c,f⟩:=zc z;refine zy ⟨ow0 c,λxs w=>?_⟩ f;have:=kz _ _ (m.keep _ _ w (m.tp.nt (ow0 c))) (m.tp.nt (ow0 c));rw[f]at this;cases this;exact g trivial) q.1)
def oO {Q:Aa->Prop}(h:EvL X L e λds=>wY ds=true/\Q (.list ds)):EvR X L e Q:=λF B H R m k=>h F B H R m λds v H' q t kz r=>by
 obtain⟨l,xs,rfl,h2,h3,g⟩:=r;refine k _ _ H' q.2 t kz (.lst (zy ⟨ow0 (m.fresh h2),λxs w=>by rw[m.fresh0 h2]at w;cases w⟩ h3) (g.noL (λx o f z=>?_) q.1));obtain⟨c,d⟩:=zc z;refine zy ⟨ow0 c.1,λxs w=>?_⟩ d;have:=kz _ _ (m.keep _ _ w (m.tp.nt (ow0 c.1))) (m.tp.nt (ow0 c.1));rw[d]at this;cases this;exact f trivial
def zl1 (X:Cx)(L:Ev)(c:List Ak)(Q:List Aa->Prop):Prop:=∀(F:Fr) (B:St) (H:Hp) (R:List V->Hp->Prop),M F L B H->(∀ds vs H',Q ds->zK F H'->Kz F H H'->AVs (sub (λx=>¬F.O0 x/\∀xs,F.H0 x≠some (.lst xs)) H') vs ds->R vs H')->zA8 X c B H R
def jy {Q:List Aa->Prop}(q:Q []):zl1 X L [] Q:=λF B H R m k=>⟨_,zD,k _ _ H q m.tp Kz.refl .nil⟩
def xY {c:List Ak}{Q:List Aa->Prop}(h:EvR X L e λd=>zl1 X L c λds=>Q (d::ds))(l:Af (e::c) X.env=(false,eval e X.env)::Af c X.env:=by rfl):zl1 X L (e::c) Q:=λF B H R m k=>by
 refine⟨_,zr zf yD l,h F B H _ m λd v H1 j t1 f s=>?_⟩;exact j F B H1 _ (m.kz f t1) λas vs q r i g n=>k _ _ q r i (f.trans g) (.cons (s.same (zq λx o z w=>⟨z,g _ _ w (m.tp.nt z.1)⟩)) n)
def dg {n:Nat}{d:List Ak}{Q:Aa->Prop}(h:zl1 X L d λds=>ds.length<=1000/\Q (.tuple ds)):EvR X L (.Tuple d n pos) Q:=λF B H R m k=>by
 refine⟨_,kD yD,h F B H _ m λds vs H1 g t1 f i=>?_⟩;have m1:=m.kz f t1;refine⟨by rw[i.length];exact z58 (yo g.1),λp c=>?_⟩;exact k _ _ _ g.2 (t1.same (zH c)) (f.trans (Kz.of_same (zH c))) (.tup (zy ⟨ow0 (m1.fresh c),λxs w=>by rw[m1.fresh0 c]at w;cases w⟩ zg) (i.same (zq λx o z w=>⟨z,by rw[zd (zj w c)];exact w⟩)))
def iA (h:EvR X L e λd=>∀S,E.rt (.deep d S)):SvS X L (.Return (some e) pos::rest) E:=λF B H D m r=>by
 refine⟨_,zJ (vI zf) zY,h F B H _ m λd v H1 i t1 g j=>?_⟩;refine r.rt (.deep d λy=>¬F.O0 y/\F.H0 y=none/\∃xs,H1 y=some (.lst xs)) _ _ ⟨t1,m.keep.trans g,?_,?_⟩ (i _)
 .refine j.same λy o z=>?_;obtain⟨f,c⟩:=zc z;unfold nQ;by_cases w:¬F.O0 y/\F.H0 y=none/\∃xs,H1 y=some (.lst xs)
  .rw[if_pos w];exact c
  .rw[if_neg w,zy f.1 c];cases o with
   |lst xs=>
    exfalso
    cases q:F.H0 y with
    |none=>exact w ⟨f.1,q,xs,c⟩
    |some o'=>
     have:=(m.kz g t1).keep y o' q (m.tp.nt f.1);rw[c]at this;cases this;exact f.2 xs q
   |_=>rfl
 .exact λx z=>z
end
def zO4 :R2:=λx y H R=>rEq x y H R\/zN7 x y H R
def zL1 :R2:=λx y H R=>rNe x y H R\/zS6 x y H R
def zd4 {X:Cx}(c:X.A.units+64<cLine):OpR X (compareOp .Eq) zO4:=λpins s B H x y v u Q I b a h=>h.elim (λh=>jo _ _ _ _ _ _ _ _ _ I b a h) λh=>zD8 c _ _ _ _ _ _ _ _ _ I b a h
def cj {X:Cx}(c:X.A.units+64<cLine):OpR X (compareOp .NotEq) zL1:=λpins s B H x y v u Q I b a h=>h.elim (λh=>zO0 _ _ _ _ _ _ _ _ _ I b a h) λh=>zH7 c _ _ _ _ _ _ _ _ _ I b a h
def zh0 {i j:Str}:Cmp rNe (.str i) (.str j) (!decide (i=j)):=λp H d c R b a h=>by
 cases b.str_inv;cases a.str_inv;refine⟨rfl,?_⟩;rw[show decide (V.str i=V.str j)=decide (i=j) by simp];exact h
def mF (x y:Aa)(Q:Bool->Prop):Prop:=∃k,Cmp zO4 x y k/\Cmp zL1 x y (!k)/\Q k
def zp2 {i j:Int}{Q:Bool->Prop}(h:Q (decide (i=j))):mF (.int i) (.int j) Q:=⟨_,λp H d b R c a z=>.inl (iw p H d b R c a z),λp H d b R c a z=>.inl (zg7 p H d b R c a z),h⟩
def zn8 {i j:Str}{Q:Bool->Prop}(h:Q (decide (i=j))):mF (.str i) (.str j) Q:=⟨_,λp H d b R c a z=>.inl (jU p H d b R c a z),λp H d b R c a z=>.inl (zh0 p H d b R c a z),h⟩
def eqk {x y:Aa}{Q:Bool->Prop}(s1:SeqAt.shaped x=true)(s2:SeqAt.shaped y=true)(c:x.hasDict=false)(d:y.hasDict=false)(h:Q (PyData.eqv x y)):mF x y Q:=
 ⟨_,λp H f e R b a z=>.inr ⟨x,y,(b.dv c).same xD,(a.dv d).same xD,s1,s2,z⟩,λp H f e R b a z=>.inr ⟨x,y,(b.dv c).same xD,(a.dv d).same xD,s1,s2,z⟩,h⟩
section
variable {X:Cx}{L:Ev}{a b:Ak}{pos:Pos}{Q:Aa->Prop}{T:Bool->Prop}
def zB5 (d:X.A.units+64<cLine)(h:EvD X L a λx=>EvD X L b λy=>mF x y λk=>Q (.bool k)):EvD X L (.Compare a [.Eq] [b] pos) Q:=dP (zd4 d) (yd _) (h.imp λx h=>h.imp λy c=>by obtain⟨k,e,_,q⟩:=c;exact⟨k,e,q⟩)
def zE9 (d:X.A.units+64<cLine)(h:EvD X L a λx=>EvD X L b λy=>mF x y λk=>Q (.bool (!k))):EvD X L (.Compare a [.NotEq] [b] pos) Q:=dP (cj d) (yd _) (h.imp λx h=>h.imp λy c=>by obtain⟨k,_,e,q⟩:=c;exact⟨!k,e,q⟩)
def zE7 (d:X.A.units+64<cLine)(h:EvD X L a λx=>EvD X L b λy=>mF x y T):EvT X L (.Compare a [.Eq] [b] pos) T:=xR (zd4 d) (yd _) (h.imp λx h=>h.imp λy c=>by obtain⟨k,e,_,q⟩:=c;exact⟨k,e,q⟩)
def zJ6 (d:X.A.units+64<cLine)(h:EvD X L a λx=>EvD X L b λy=>mF x y λk=>T (!k)):EvT X L (.Compare a [.NotEq] [b] pos) T:=xR (cj d) (yd _) (h.imp λx h=>h.imp λy c=>by obtain⟨k,_,e,q⟩:=c;exact⟨!k,e,q⟩)
def zz8 {k:Bool}{p q:Prop}(e:k=true)(h:p):if k=true then p else q:=by rw[if_pos e];exact h
def zu6 {k:Bool}{p q:Prop}(e:k=false)(h:q):if k=true then p else q:=by rw[if_neg (by rw[e];decide)];exact h
variable {E:xf}{s t:List An}
def jv {k:Bool}(e:k=true)(h:SvS X L s E):SvS X L (if k=true then s else t) E:=by rw[if_pos e];exact h
def tY {k:Bool}(e:k=false)(h:SvS X L t E):SvS X L (if k=true then s else t) E:=by rw[if_neg (by rw[e];decide)];exact h
end
section
variable {X:Cx}{L:Ev}{a b:Ak}{pos:Pos}{Q:Aa->Prop}{T:Bool->Prop}
def zX3 :R2:=λx y H Q=>∃a v,x=.ref a/\ly H a y (some v)/\Q v H
def zp0 (f:X.A.units+1<cLine):IxR X zX3:=λvalue slice pins s B H x y v u Q I j i h c=>by
 obtain⟨a,z,rfl,g,q⟩:=h;cases j;exact tail_any (mh I g) PySem.F.slot_dict_getitem.lookup (fh f I g i λk s' e d=>⟨z,H,e,d,q⟩) c
def lX (x y:Aa)(Q:Aa->Prop):Prop:=(∃ds i d,wD x=some ds/\y=.int i/\atI ds i=some d/\Q d)\/∃ds k d,x=yW ds/\y=xG k/\vX ds k=some d/\Q d
def ixk {x y:Aa}{ds:List Aa}{i:Int}{d:Aa}(h1:wD x=some ds)(h2:y=.int i)(h3:atI ds i=some d)(h:Q d):lX x y Q:=.inl ⟨ds,i,d,h1,h2,h3,h⟩
def zS4 {d:Aa}{r:List Aa}(h:Q d):lX (.tuple (d::r)) (.int 0) Q:=ixk rfl rfl (yn rfl) h
def uy {ds:List (Aa×Aa)}{k:Key}{d y:Aa}(h2:y=xG k)(h3:vX ds k=some d)(h:Q d):lX (yW ds) y Q:=.inr ⟨ds,k,d,rfl,h2,h3,h⟩
def xK {x:Aa}{ds:List Aa}{v:Int}(c:wD x=some ds)(h0:0<=v)(h1:v<ds.length)(h:tK Q ds):lX x (.int v) Q:=.inl (zj0 c h0 h1 h)
def wH {x:Aa}{ds:List Aa}{v:Int}(P:Aa->Prop)(c:wD x=some ds)(h0:0<=v)(h1:v<ds.length)(h:tK P ds)(k:∀d,P d->Q d):lX x (.int v) Q:=.inl (aZ P c h0 h1 h k)
def wC (p:X.A.units+1<cLine)(n:pP b)(h:EvD X L a λx=>EvD X L b λy=>lX x y Q):EvD X L (.Subscript a b pos) Q:=by
 refine uS (yB (zF5.or (zp0 p)) zf zf n) (λ_ _ _=>Iff.rfl) (h.imp λx h=>h.imp λy h=>?_);intro F B H s t R m f j k;rcases h with⟨ds,i,d,e1,rfl,c,hq⟩|⟨ds,l,d,rfl,rfl,e,hq⟩
 .cases j.int_inv;cases x with
  |list g=>
   cases e1;obtain⟨a,xs,rfl,h1,h2⟩:=f.lst_inv;obtain⟨v,e,av⟩:=h2.atI c;exact .inl (.inl ⟨a,xs,i,v,rfl,rfl,SqL.of (zc h1).2,e,k d v H hq m.tp Kz.refl av⟩)
  |tuple g=>
   cases e1;obtain⟨a,xs,rfl,h1,h2⟩:=f.tup_inv;obtain⟨v,e,av⟩:=h2.atI c;exact .inl (.inr (.inl ⟨a,xs,i,v,rfl,rfl,SqT.of (zc h1).2,e,k d v H hq m.tp Kz.refl av⟩))
  |_=>cases e1
 .obtain⟨a,o,kvs,rfl,g1,g2⟩:=f.dk_inv;obtain⟨v,q,r⟩:=g2.get e;cases sr j;exact .inr ⟨a,v,rfl,.inl ⟨kvs,l,.inr ⟨o,(zc g1).2⟩,rfl,q.symm⟩,k d v H hq m.tp Kz.refl r⟩
def zl9 (K:Ac)(neg:Bool):R2:=λx y H Q=>rIn K neg x y H Q\/∃a o,y=.ref a/\ly H a x o/\Q (.bl (if neg then !o.isSome else o.isSome)) H
def zJ8 (f:X.A.units+1<cLine):OpR X (compareOp .In) (zl9 X.K false):=λpins s B H x y v u Q I d c h=>by
 rcases h with h|⟨a,o,rfl,g,q⟩
 .exact fQ pins s B H x y v u Q I d c h
 .cases c;exact zW9 f I g d λs' e=>⟨.bl o.isSome,H,e,rfl,q⟩
def gp (f:X.A.units+1<cLine):OpR X (compareOp .NotIn) (zl9 X.K true):=λpins s B H x y v u Q I d c h=>by
 rcases h with h|⟨a,o,rfl,g,q⟩
 .exact oT pins s B H x y v u Q I d c h
 .cases c;exact zh1 f I g d λs' e=>⟨.bl (!o.isSome),H,e,rfl,q⟩
def aw (X:Cx)(x y:Aa)(Q:Bool->Prop):Prop:=∃k,Cmp (zl9 X.K false) x y k/\Cmp (zl9 X.K true) x y (!k)/\Q k
def ink {x:Aa}{ds:List Aa}(f1:sT x=true)(f2:ds.all sT=true)(q:T (inD x ds)):aw X x (.list ds) T:=
 ⟨_,λp H f d R e c h=>.inl (dB f1 f2 p H f d R e c h),λp H f d R e c h=>.inl (dB f1 f2 p H f d R e c h),q⟩
def mC {x:Aa}{ds:List (Aa×Aa)}{k:Key}(e:x=xG k)(q:T (vX ds k).isSome):aw X x (yW ds) T:=by
 subst e;have key:∀p H c d,AV (sub p H) c (xG k)->AV (sub p H) d (yW ds)->∃a o,d=.ref a/\ly H a c o/\o.isSome=(vX ds k).isSome:=λp H c d g f=>by
  obtain⟨a,o,kvs,rfl,g1,g2⟩:=f.dk_inv;cases sr g;exact⟨a,_,rfl,.inl ⟨kvs,k,.inr ⟨o,(zc g1).2⟩,rfl,rfl⟩,g2.some_iff k⟩
 refine⟨_,λp H c d R g f h=>?_,λp H c d R g f h=>?_,q⟩
 .obtain⟨a,o,e1,j,i⟩:=key p H c d g f;exact .inr ⟨a,o,e1,j,by rw[if_neg (by decide),i];exact h⟩
 .obtain⟨a,o,e1,j,i⟩:=key p H c d g f;exact .inr ⟨a,o,e1,j,by rw[if_pos rfl,i];exact h⟩
def zE4 (d:X.A.units+1<cLine)(h:EvD X L a λx=>EvD X L b λy=>aw X x y T)(hm:behindInMarks .In b=false:=by rfl):EvT X L (.Compare a [.In] [b] pos) T:=
 xR (zJ8 d) hm (h.imp λx h=>h.imp λy c=>by obtain⟨k,e,_,q⟩:=c;exact⟨k,e,q⟩)
def zs4 (d:X.A.units+1<cLine)(h:EvD X L a λx=>EvD X L b λy=>aw X x y λk=>T (!k))(hm:behindInMarks .NotIn b=false:=by rfl):EvT X L (.Compare a [.NotIn] [b] pos) T:=
 xR (gp d) hm (h.imp λx h=>h.imp λy c=>by obtain⟨k,_,e,q⟩:=c;exact⟨!k,e,q⟩)
end
def zR.few {k:Nat}{A:Am}(h:zR k A):A.units+70<cLine:=by have:=h.un;lia
def zR.one {k:Nat}{A:Am}(h:zR k A):A.units+1<cLine:=by have:=h.units;exact zW5 this
section
variable {X:Cx}{L:Ev}{E:xf}{rest body:List An}{e c tg iter:Ak}{pos p:Pos}
def zQ (pat:Pat)(h:EvI X L tg iter λds=>tf X pat body rest E ds L)(f:X.N.Nodup:=by assumption)(b:PassesOwn (Al X.prog X.w) X.A X.env X.xe:=by exact yc7)(d:X.calm=true:=by rfl)
  (hg:PG X tg (lh X.K pat):=by first|exact yj (by assumption) rfl (Or.inl rfl)|exact yj (by assumption) rfl (Or.inr rfl)|exact uc rfl rfl (by repeat (first|exact su|refine vj (by first|exact yj (by assumption) rfl (Or.inl rfl)|exact yj (by assumption) rfl (Or.inr rfl)) ?_)))
  (a:∀x,foldedSetIterable iter X.env x=pure x:=by intro _;rfl):SvS X L (.For tg iter body [] pos::rest) E:=oQ b d hg h a
noncomputable def freeOk (xs:Aq)(y:Str×NameKind):Bool:=match y.2 with
 |.free=>match xs.names.lookup y.1 with
  |some .cell=>true
  |some .free=>true
  |_=>false
 |_=>true
theorem mn {xs scope:Aq}(h:scope.names.all (freeOk xs)=true):∀y∈scope.names,y.2=.free->xs.names.lookup y.1=some .cell\/xs.names.lookup y.1=some .free:=λy hy e=>by
 have:=z79.mp h y hy;unfold freeOk at this;rw[e]at this;cases z:xs.names.lookup y.1 with
 |none=>rw[z]at this;cases this
 |some k=>
  rw[z]at this;cases k<;>first|exact .inl rfl|exact .inr rfl|cases this
def yS (N:List Str)(imp:List (Option Nat))(pat:Pat){scope:Aq}{elt:Ak}{ifs:List Ak}{Q:List Aa->Prop}(h:EvI X L tg iter λds=>ds.length<=1000/\xp (λC s2 d fp=>X.comp N scope C s2 d fp) pat ifs elt (yP imp L) ds [] Q)
  (nd:N.Nodup:=by decide +kernel) (h1:scope.kind=.function:=by rfl) (h2:∀y∈scope.names,y.2≠.cell:=by decide +kernel) (h3:∀y∈scope.names,y.2=.local->scope.names.lookup y.1=some .local:=by decide +kernel) (l:scope.names.all (freeOk X.env.scope)=true:=by rfl) (i:imp.length=N.length:=by rfl)
  (k:((imp.zip N).all λp=>match p.1 with|none=>true|some j=>X.N[j]? == some p.2&&scope.names.lookup p.2 == some .free)=true:=by rfl) (a:pat.free (yP imp L)=true:=by rfl)
  (hg:∀C s2 d fp,N.Nodup->PG (X.comp N scope C s2 d fp) tg (lh X.K pat):=by intro _ _ _ _ b;first|exact yj b rfl (Or.inl rfl)|exact uc rfl rfl (by repeat (first|exact su|refine vj (yj b rfl (Or.inl rfl)) ?_)))
  (g:X.calm=true:=by rfl) (f:∀x,foldedSetIterable iter X.env x=pure x:=by intro _;rfl):EvL X L (.ListComp elt [⟨tg,iter,ifs,0⟩] scope pos) Q:=zA1 g ⟨h1,nd,h2,h3,mn l,i,k⟩ a (λC s2 d fp=>hg C s2 d fp nd) h f
def zc4 (i:Nat)(N:List Str)(imp:List (Option Nat))(pat:Pat){x:Str}{pos' a:Pos}{scope:Aq}{elt:Ak}{ifs:List Ak}(h:EvI X L tg iter λds=>ds.length<=1000/\xp (λC s2 f fp=>X.comp N scope C s2 f fp) pat ifs elt (yP imp L) ds [] λds=>SvS X (L.set i (some (.own ds))) rest E)
  (n:X.N.Nodup:=by assumption)
  (nd:N.Nodup:=by decide +kernel) (h1:scope.kind=.function:=by rfl) (h2:∀y∈scope.names,y.2≠.cell:=by decide +kernel) (h3:∀y∈scope.names,y.2=.local->scope.names.lookup y.1=some .local:=by decide +kernel) (r:scope.names.all (freeOk X.env.scope)=true:=by rfl) (l:imp.length=N.length:=by rfl)
  (q:((imp.zip N).all λp=>match p.1 with|none=>true|some j=>X.N[j]? == some p.2&&scope.names.lookup p.2 == some .free)=true:=by rfl) (b:pat.free (yP imp L)=true:=by rfl)
  (hg:∀C s2 f fp,N.Nodup->PG (X.comp N scope C s2 f fp) tg (lh X.K pat):=by intro _ _ _ _ d;first|exact yj d rfl (Or.inl rfl)|exact uc rfl rfl (by repeat (first|exact su|refine vj (yj d rfl (Or.inl rfl)) ?_)))
  (k:X.calm=true:=by rfl)
  (hi:X.N[i]?=some x:=by rfl) (o:Loc X.env.scope x:=by first|exact Or.inl rfl|exact Or.inr rfl) (g:swapsWith (.ListComp elt [⟨tg,iter,ifs,0⟩] scope a) (some (.Name x pos')) pos.line X.env=pure true:=by rfl)
  (hf:X.fn x=true\/X.env.scope.names.lookup x=some .local:=by first|exact .inl rfl|exact .inr rfl|assumption) (m:∀x,foldedSetIterable iter X.env x=pure x:=by intro _;rfl):
  SvS X L (.Assign [.Name x pos'] (.ListComp elt [⟨tg,iter,ifs,0⟩] scope a) pos::rest) E:=cM i n k ⟨h1,nd,h2,h3,mn r,l,q⟩ b (λC s2 f fp=>hg C s2 f fp nd) h hi o g hf m
end
section
variable {Y:Ae->Ad->Hp->List Ae->Cx}{pat:Pat}{ifs:List Ak}{elt:Ak}{α0:Ev}{ι:Type}{g f:ι->Aa}{l:List ι}{acc:List Aa}{Q:List Aa->Prop}
theorem mr (p:ι->Bool)(f:ι->Aa)(h:∀x∈l,∃a,pat.bind (g x) α0=some a/\(∀C s2 b fp (Q:Bool->Prop),Q (p x)->ck (Y C s2 b fp) a ifs Q)/\(p x=true->∀C s2 b fp (Q:Aa->Prop),Q (f x)->EvD (Y C s2 b fp) a elt Q))
  (hd:Q (acc++(l.filter p).map f)):xp Y pat ifs elt α0 (l.map g) acc Q:=by
 induction l generalizing acc with
 |nil=>
  show Q acc;simpa using hd
 |cons d ds i=>
  obtain⟨a,e,h1,h2⟩:=h d z03;refine⟨a,e,λC s2 b fp=>h1 C s2 b fp _ ?_⟩;have c:=λacc=>i (acc:=acc) λd hd=>h d (z01 _ hd);cases hp:p d with
  |true=>
   rw[if_pos rfl];refine λC s2 b fp=>h2 hp C s2 b fp _ (c _ ?_);simpa[ye1,hp]using hd
  |false=>
   rw[if_neg (by decide)];refine c _ ?_;simpa[ye1,hp]using hd
def zV (f:ι->Aa)(b:∀x∈l,∃a,pat.bind (g x) α0=some a/\∀C s2 d fp (Q:Aa->Prop),Q (f x)->EvD (Y C s2 d fp) a elt Q)(hd:Q (acc++l.map f)):xp Y pat [] elt α0 (l.map g) acc Q:=
 mr (λ_=>true) f (λx c=>by
  obtain⟨a,h1,h2⟩:=b x c;exact⟨a,h1,λ_ _ _ _ _ k=>dn k,λ_=>h2⟩) (by rw[List.filter_eq_self.mpr λ_ _=>rfl];exact hd)
end
abbrev Part :=Int×Int×Nat
abbrev Way :=Int×Int×Option Part
abbrev Co :=Nat->Int->Int->Option Int
inductive Cut (co:Co)(N:Nat):Int->Int->Int->List Part->Prop
 |nil (a:Int):Cut co N a a 0 []
 |cons {a e b x y:Int}{n:Nat}{ps:List Part} (h1:a<e) (h2:n<N) (h3:co n a e=some x) (h:Cut co N e b y ps):Cut co N a b (x+y) ((a,e,n)::ps)
section
variable {co:Co}{N:Nat}
theorem Cut.le {a b z:Int}{ps:List Part}(h:Cut co N a b z ps):a<=b:=by
 induction h with
 |nil a=>exact z90 _
 |cons h1 _ _ _ c=>exact yd1 (yb2 h1 c)
theorem Cut.app {a b e z y:Int}{ps qs:List Part}(h:Cut co N a b z ps)(h':Cut co N b e y qs):Cut co N a e (z+y) (ps++qs):=by
 induction h with
 |nil a=>rw[Int.zero_add];exact h'
 |cons h1 h2 h3 _ c=>rw[Int.add_assoc,yh4];exact .cons h1 h2 h3 (c h')
def Cut.snoc {a b e z x:Int}{n:Nat}{ps:List Part}(h:Cut co N a b z ps)(h1:b<e)(h2:n<N)(h3:co n b e=some x):Cut co N a e (z+x) (ps++[(b,e,n)]):=by
 have:=h.app (.cons h1 h2 h3 (.nil e))
 rwa [Int.add_zero]at this
theorem Cut.last {a b z:Int}{ps:List Part}(h:Cut co N a b z ps):(ps=[]/\a=b/\z=0)\/∃qs d y x n,ps=qs++[(d,b,n)]/\Cut co N a d y qs/\d<b/\n<N/\co n d b=some x/\z=y+x:=by
 induction h with
 |nil a=>exact .inl ⟨rfl,rfl,rfl⟩
 |@cons a e b x y n ps h1 h2 h3 h ih=>
  right;rcases ih with⟨rfl,rfl,rfl⟩|⟨qs,d,g,i,m,rfl,c,hd,hm,f,rfl⟩
  .exact⟨[],a,0,x,n,rfl,.nil a,h1,h2,h3,zY9⟩
  .exact⟨(a,e,n)::qs,d,x+g,i,m,rfl,.cons h1 h2 h3 c,hd,hm,f,zX6⟩
def zg4 (co:Co)(N:Nat)(a b z:Int):Prop:=(∃ps,Cut co N a b z ps)/\∀y ps,Cut co N a b y ps->z<=y
noncomputable def ltQ (x y:Part):Bool:=decide (x.1<y.1)||(decide (x.1=y.1)&&(decide (x.2.1<y.2.1)||(decide (x.2.1=y.2.1)&&decide (x.2.2<y.2.2))))
noncomputable def ltP (x y:Int×Part):Bool:=decide (x.1<y.1)||(decide (x.1=y.1)&&ltQ x.2 y.2)
noncomputable def lC :List (Int×Part)->Int×Part
 |[]=>(0,0,0,0)
 |d::ds=>ds.foldl (λb x=>if ltP x b=true then x else b) d
def zU3 {x y:Int×Part}(h:ltP x y=true):x.1<=y.1:=by
 unfold ltP at h;simp only[yb4,z36,z55]at h
 lia
def zQ7 {x y:Int×Part}(h:¬ltP x y=true):y.1<=x.1:=by
 unfold ltP at h;simp only[yb4,z36,z55,not_or]at h;exact Int.not_lt.1 h.1
theorem jL :∀(ds:List (Int×Part)) (d:Int×Part),(ds.foldl (λb x=>if ltP x b=true then x else b) d=d\/ds.foldl (λb x=>if ltP x b=true then x else b) d∈ds)/\(ds.foldl (λb x=>if ltP x b=true then x else b) d).1<=d.1/\∀x∈ds,(ds.foldl (λb x=>if ltP x b=true then x else b) d).1<=x.1
 |[],d=>⟨.inl rfl,z90 _,λx a=>by simp at a⟩
 |y::ds,d=>by
  rw[yf4];obtain⟨h1,h2,h3⟩:=jL ds (if ltP y d=true then y else d);by_cases h:ltP y d=true
  .rw[if_pos h]at h1 h2 h3 ⊢;have:=zU3 h;refine⟨.inr ?_,(Int.le_trans h2 this),λx a=>?_⟩
   .rcases h1 with e|e
    .rw[e];exact z03
    .exact z01 _ e
   .rcases zZ9.mp a with rfl|a
    .exact h2
    .exact h3 x a
  .rw[if_neg h]at h1 h2 h3 ⊢;have:=zQ7 h;refine⟨h1.imp id λe=>z01 _ e,h2,λx a=>?_⟩;rcases zZ9.mp a with rfl|a
   .exact Int.le_trans h2 this
   .exact h3 x a
theorem dI {ds:List (Int×Part)}(h:ds≠[]):lC ds∈ds:=by
 cases ds with
 |nil=>exact absurd rfl h
 |cons d ds=>
  rcases(jL ds d).1 with e|e
  .show List.foldl _ d ds∈_;rw[e];exact z03
  .exact z01 _ e
theorem zo4 {ds:List (Int×Part)}{x:Int×Part}(h:x∈ds):(lC ds).1<=x.1:=by
 cases ds with
 |nil=>simp at h
 |cons d ds=>
  rcases zZ9.mp h with rfl|h
  .exact(jL ds x).2.1
  .exact(jL ds d).2.2 x h
noncomputable def dR (co:Co)(N:Nat)(day:Int)(w:Way):List (Int×Part):=(List.range N).filterMap λn=>(co n w.1 day).map λx=>(w.2.1+x,(w.1,day,n))
noncomputable def uH (co:Co)(N:Nat)(W:List Way)(day:Int):List (Int×Part):=W.flatMap (dR co N day)
def pJ {W:List Way}{day:Int}{p:Int×Part}:p∈uH co N W day↔∃w∈W,∃n x,n<N/\co n w.1 day=some x/\p=(w.2.1+x,(w.1,day,n)):=by
 unfold uH dR;simp only[List.mem_flatMap,yj7,yd0,z22]
 constructor
 .rintro⟨w,hw,n,hn,x,a,rfl⟩;exact⟨w,hw,n,x,hn,a,rfl⟩
 .rintro⟨w,hw,n,x,hn,a,rfl⟩;exact⟨w,hw,n,hn,x,a,rfl⟩
noncomputable def nZ (co:Co)(N:Nat)(W:List Way)(day:Int):List Way:=if uH co N W day=[]then W else W++[(day,(lC (uH co N W day)).1,some (lC (uH co N W day)).2)]
noncomputable def yc (co:Co)(N:Nat)(c:Int):Nat->List Way
 |0=>[(c,0,none)]
 |k+1=>nZ co N (yc co N c k) (c+1+k)
noncomputable def yg (W:List Way)(d:Int):Option (Int×Option Part):=(W.find? λw=>decide (w.1=d)).map (·.2)
structure wy (co:Co)(N:Nat)(c:Int)(k:Nat)(W:List Way):Prop where
 first:∃r,W=(c,0,none)::r/\∀w∈r,c<w.1
 top:∀w∈W,w.1<=c+k
 sort:(W.map (·.1)).Pairwise (·<·)
 step:∀w∈W,w=(c,0,none)\/∃u∈W,∃n y,u.1<w.1/\n<N/\co n u.1 w.1=some y/\w=(w.1,u.2.1+y,some (u.1,w.1,n))
 shut:∀u∈W,∀d n y,u.1<d->d<=c+k->n<N->co n u.1 d=some y->∃w∈W,w.1=d/\w.2.1<=u.2.1+y
def wy.low {c:Int}{k:Nat}{W:List Way}(h:wy co N c k W):∀w∈W,c<=w.1:=λw hw=>by
 obtain⟨r,rfl,hr⟩:=h.first;rcases zZ9.mp hw with rfl|hw
 .exact z90 _
 .have:=hr w hw;exact yd1 this
theorem zl3 (c:Int):∀k,wy co N c k (yc co N c k)
 |0=>by
  refine⟨⟨[],rfl,λw hw=>by simp at hw⟩,λw hw=>?_,by simp[yc],λw hw=>?_,λu f d n y h1 h2 _ _=>?_⟩
  .rw[z06.mp hw];simp
  .exact .inl (z06.mp hw)
  .rw[z06.mp f]at h1;simp only[Int.natCast_zero,Int.add_zero]at h2;have s:c<d:=h1
   lia
 |k+1=>by
  have g:=zl3 c k;unfold yc nZ;generalize yc co N c k=W at g;obtain⟨r,hr,m⟩:=g.first;by_cases e:uH co N W (c+1+k)=[]
  .rw[if_pos e];refine⟨g.first,λw hw=>by have:=g.top w hw;exact zN2 this,g.sort,g.step,λu f d n y h1 h2 h3 i=>?_⟩;by_cases hd:d<=c+k
   .exact g.shut u f d n y h1 hd h3 i
   .have:d=c+1+k:=(zN5 h2 hd);subst this;have:=pJ.mpr ⟨u,f,n,y,h3,i,rfl⟩;rw[e]at this;simp at this
  .rw[if_neg e];obtain⟨o,j,t,v,l,p,em⟩:=pJ.mp (dI e);refine⟨?_,λw hw=>?_,?_,λw hw=>?_,λu f d n y h1 h2 h3 i=>?_⟩
   .rw[hr];refine⟨r++[_],rfl,λw hw=>?_⟩;rcases z44.mp hw with hw|hw
    .exact m w hw
    .rw[z06.mp hw];show c<c+1+k;lia
   .rcases z44.mp hw with hw|hw
    .have:=g.top w hw;exact zN2 this
    .rw[z06.mp hw];show c+1+k<=c+((k+1:Nat):Int);exact zY5
   .rw[z54,List.pairwise_append];refine⟨g.sort,by simp,λa ha b hb=>?_⟩;obtain⟨w,hw,rfl⟩:=z33.mp ha;have:=g.top w hw;rw[z27,yd2,z06]at hb
    lia
   .rcases z44.mp hw with hw|hw
    .rcases g.step w hw with h|⟨u,f,n,y,h⟩
     .exact .inl h
     .exact .inr ⟨u,yb9 _ f,n,y,h⟩
    .rw[z06.mp hw];refine .inr ⟨o,yb9 _ j,t,v,?_,l,p,?_⟩
     .have:=g.top o j;show o.1<c+1+k;exact zY1 this
     .rw[em]
   .have key:∀u∈W,u.1<d->∃w∈W++[(c+1+k,(lC (uH co N W (c+1+k))).1,some (lC (uH co N W (c+1+k))).2)],w.1=d/\(co n u.1 d=some y->w.2.1<=u.2.1+y)\/¬co n u.1 d=some y:=λu f h1=>by
     by_cases i:co n u.1 d=some y
     .by_cases hd:d<=c+k
      .obtain⟨w,hw,e1,q⟩:=g.shut u f d n y h1 hd h3 i;exact⟨w,yb9 _ hw,.inl ⟨e1,λ_=>q⟩⟩
      .have:d=c+1+k:=(zN5 h2 hd);subst this;exact⟨_,z43 _ (z06.mpr rfl),.inl ⟨rfl,λ_=>zo4 (pJ.mpr ⟨u,f,n,y,h3,i,rfl⟩)⟩⟩
     .exact⟨_,z43 _ (z06.mpr rfl),.inr i⟩
    rcases z44.mp f with f|f
    .obtain⟨w,hw,h|h⟩:=key u f h1
     .exact⟨w,hw,h.1,h.2 i⟩
     .exact absurd i h
    .rw[z06.mp f]at h1
     lia
theorem wy.uniq {c:Int}{k:Nat}{W:List Way}(h:wy co N c k W){u w:Way}(g:u∈W)(hw:w∈W)(e:u.1=w.1):u=w:=by
 have f:=h.sort;clear h
 induction W with
 |nil=>simp at g
 |cons a W i=>
  rw[z27,z74]at f;rcases zZ9.mp g with rfl|d
  .rcases zZ9.mp hw with rfl|b
   .rfl
   .have:=f.1 w.1 (z33.mpr ⟨w,b,rfl⟩);exact(yh2 _ (yb2 this (Int.le_of_eq e.symm))).elim
  .rcases zZ9.mp hw with rfl|b
   .have:=f.1 u.1 (z33.mpr ⟨u,d,rfl⟩);exact(yh2 _ (yb2 this (Int.le_of_eq e))).elim
   .exact i d b f.2
def find_some {W:List Way}{d:Int}{x:Int}{l:Option Part}(h:yg W d=some (x,l)):(d,x,l)∈W:=by
 unfold yg at h;obtain⟨w,hw,e⟩:=z22.mp h;have h1:=List.find?_some hw;rw[z55]at h1;rw[show(d,x,l)=w by rw[<-h1,<-e]];exact(List.mem_of_find?_eq_some hw)
def find_none {W:List Way}{d:Int}(h:yg W d=none):∀w∈W,w.1≠d:=λw hw e=>by
 unfold yg at h;rw[Option.map_eq_none_iff,List.find?_eq_none]at h;have:=h w hw;rw[z39 e]at this;exact this rfl
theorem wy.find {c:Int}{k:Nat}{W:List Way}(h:wy co N c k W){d x:Int}{l:Option Part}(hw:(d,x,l)∈W):yg W d=some (x,l):=by
 cases e:yg W d with
 |none=>exact absurd rfl (find_none e _ hw)
 |some p=>
  have:=h.uniq (find_some e) hw rfl;rw[show p=(x,l) by injection this]
theorem wy.least {c:Int}{k:Nat}{W:List Way}(h:wy co N c k W):∀(m:Nat) {d z:Int}{ps:List Part},ps.length=m->Cut co N c d z ps->d<=c+k->∃w∈W,w.1=d/\w.2.1<=z
 |0,d,z,ps,a,f,hd=>by
  rcases f.last with⟨_,rfl,rfl⟩|⟨qs,_,_,_,_,rfl,_⟩
  .obtain⟨r,rfl,_⟩:=h.first;exact⟨_,z03,rfl,z90 _⟩
  .simp at a
 |m+1,d,z,ps,a,f,hd=>by
  rcases f.last with⟨rfl,_⟩|⟨qs,b,y,x,n,rfl,e,hb,hn,g,rfl⟩
  .simp at a
  .obtain⟨u,i,rfl,hle⟩:=h.least m (by simpa using a) e (yd1 (yb2 hb hd));obtain⟨w,hw,e1,j⟩:=h.shut u i d n x hb hd hn g;exact⟨w,hw,e1,by lia⟩
noncomputable def wV (W:List Way)(c:Int):Nat->Int->List Part
 |0,_=>[]
 |f+1,d=>if d=c then []else match yg W d with
  |some (_,some p)=>p::wV W c f p.1
  |_=>[]
theorem wy.back {c:Int}{k:Nat}{W:List Way}(h:wy co N c k W):∀(f:Nat) {d x:Int}{l:Option Part},(d,x,l)∈W->d-c<=f->Cut co N c d x (wV W c f d).reverse
 |0,d,x,l,hw,hf=>by
  have:=h.low _ hw;have hd:d=c:=by simp only[Int.natCast_zero]at hf;have:c<=d:=this;lia
  subst hd;obtain⟨r,hr,_⟩:=h.first;have:=h.uniq (w:=(d,0,none)) hw (by rw[hr];exact z03) rfl;injection this with _ e;injection e with e _;subst e;exact .nil _
 |f+1,d,x,l,hw,hf=>by
  rw[wV];rcases h.step _ hw with e|⟨u,b,n,y,h1,h2,h3,e⟩
  .injection e with e1 a;injection a with a _;subst e1 a;rw[if_pos rfl];exact .nil _
  .have g:=h.low u b;have e:(d,x,l)=(d,u.2.1+y,some (u.1,d,n)):=e;injection e with _ e;injection e with e i;subst e i;rw[if_neg (by lia),h.find hw];rw[ya5];exact(h.back f b (by lia)).snoc h1 h2 h3
noncomputable def rh (W:List Way):List Int:=W.map (·.2.1)
noncomputable def om (W:List Way)(hi:Int)(d:Int):Int:=match yg W d with
 |some (x,_)=>x
 |none=>hi
end
def zf7 (a:Int)(k:Nat):zo a (k+1)=zo a k++[a+(k:Nat)]:=by
 unfold zo;rw[List.range_succ,z54];rfl
theorem zD7 (f:Int->Int)(a:Int):∀k:Nat,((zo a k).map λd=>f (d+1)-f d).sum=f (a+k)-f a
 |0=>by simp[zo]
 |k+1=>by
  rw[zf7,z54,List.sum_append,zD7 f a k];simp only[z27,yd2,ye5,List.sum_nil];rw[show a+((k+1:Nat):Int)=a+k+1 by omega];omega
def zF2 (a:Int){n i k:Nat}(h:i+k<=n):((zo a n).drop i).take k=zo (a+i) k:=by
 refine List.ext_getElem? λj=>?_;rw[List.getElem?_take];split
 .rename_i b;rw[yk1,zE (zX1 h b),zE b]
  congr 1
  lia
 .rw[yb5 (by rw[zb];lia)]
theorem zj6 :∀{zs:List Int}{z:Int},z∈zs->z<=uT zs:=by
 intro zs z h;cases zs with
 |nil=>simp at h
 |cons d ds=>
  have key:∀(l:List Int) m,m<=l.foldl (λb x=>if b<x then x else b) m/\∀y∈l,y<=l.foldl (λb x=>if b<x then x else b) m:=by
   intro l
   induction l with
   |nil=>exact λm=>⟨z90 _,λy hy=>by simp at hy⟩
   |cons x l a=>
    intro m;rw[yf4];obtain⟨h1,h2⟩:=a (if m<x then x else m);have hm:m<=(if m<x then x else m)/\x<=(if m<x then x else m):=by split<;>lia
    refine⟨(Int.le_trans hm.1 h1),λy hy=>?_⟩;rcases zZ9.mp hy with rfl|hy
    .exact Int.le_trans hm.2 h1
    .exact h2 y hy
  have:=key ds d;rcases zZ9.mp h with rfl|h
  .exact this.1
  .exact this.2 z h
theorem cN {zs:List Int}(h:zs≠[]):uT zs∈zs:=by
 cases zs with
 |nil=>exact absurd rfl h
 |cons d ds=>
  have key:∀(l:List Int) m,l.foldl (λb x=>if b<x then x else b) m=m\/l.foldl (λb x=>if b<x then x else b) m∈l:=by
   intro l
   induction l with
   |nil=>exact λm=>.inl rfl
   |cons x l a=>
    intro m;rw[yf4];rcases a (if m<x then x else m)with e|e
    .rw[e];split
     .exact .inr z03
     .exact .inl rfl
    .exact .inr (z01 _ e)
  rcases key ds d with e|e
  .show List.foldl _ d ds∈_;rw[e];exact z03
  .exact z01 _ e
def uX (ds:List Aa){a:Int}(h:0<=a):cutD ds (some a) none=ds.drop a.toNat:=by
 obtain⟨n,rfl⟩:=z66 h;unfold cutD;rw[HT.tX,HT.sI,z67];rcases Nat.le_total n ds.length with z|z
 .rw[yj3 z,yg9 (by rw[z88];exact zZ8 _)]
 .rw[Nat.min_eq_right z,List.drop_eq_nil_of_le (zZ8 _),List.drop_eq_nil_of_le z,List.take_nil]
def iH (ds:List Aa){a:Int}(h:0<=a):cutD ds none (some a)=ds.take a.toNat:=by
 obtain⟨n,rfl⟩:=z66 h;unfold cutD;rw[HT.tX,HT.sI,z67,List.drop_zero,Nat.sub_zero];rcases Nat.le_total n ds.length with z|z
 .rw[yj3 z]
 .rw[Nat.min_eq_right z,yg9 (zZ8 _),yg9 z]
def zf1 (ds:List Aa){a b:Int}(h:0<=a)(hb:a<=b)(c:b<=ds.length):cutD ds (some a) (some b)=(ds.drop a.toNat).take (b-a).toNat:=by
 obtain⟨n,rfl⟩:=z66 h;obtain⟨m,rfl⟩:=z66 (show 0<=b by omega);unfold cutD;rw[HT.tX,HT.tX,z67,yj3 (zV1 c),yj3 (by lia)]
 congr 1
 lia
def nM (ds:List Aa):cutD ds none (some (-1))=ds.take (ds.length-1):=by
 unfold cutD;rw[HT.sI];have:HT.sIx ds.length ds.length (some (-1))=ds.length-1:=by
  show(if(-1:Int)<0 then((-1:Int)+(ds.length:Int)).toNat else min (-1:Int).toNat ds.length)=_;rw[if_pos (by decide)]
  lia
 rw[this,List.drop_zero,Nat.sub_zero]
def cR (f:Int->Int)(c:Int)(n:Nat):fj (cutD (((zo c (n+1)).map f).map PyData.int) none (some (-1))) (cutD (((zo c (n+1)).map f).map PyData.int) (some 1) none)=(zo c n).map λd=>.tuple [.int (f d),.int (f (d+1))]:=by
 rw[nM,uX _ (by decide)];unfold fj;refine List.ext_getElem? λj=>?_;rw[List.getElem?_zipWith];simp only[zZ2,zb,List.getElem?_take,yk1,z04];by_cases h:j<n
 .rw[if_pos (by omega),zE (by lia),zE h,show(1:Int).toNat+j=j+1 from by rw[Nat.add_comm];rfl,zE (by lia)];show some _=some _;rw[show c+((j+1:Nat):Int)=c+j+1 by omega]
 .rw[if_neg (by omega),yb5 (l:=zo c n) (by rw[zb];exact z98 h)];rfl
section
variable {co:Co}{N:Nat}
def zg6 (W:List Way):Int:=uT (rh W)
def hW (W:List Way)(d:Int):Int:=om W (zg6 W) d
noncomputable def xO (W:List Way)(c:Int)(n:Nat):List Int:=(zo c n).map λd=>hW W (d+1)-hW W d
def wu {W:List Way}{d x:Int}{l:Option Part}(h:yg W d=some (x,l)):hW W d=x:=by unfold hW om;rw[h]
def sv {W:List Way}{d:Int}(h:yg W d=none):hW W d=zg6 W:=by unfold hW om;rw[h]
theorem zT8 (W:List Way)(d:Int):hW W d<=zg6 W:=by
 cases e:yg W d with
 |none=>rw[sv e];exact z90 _
 |some p=>
  rw[wu e];exact zj6 (z33.mpr ⟨_,find_some e,rfl⟩)
def eI (W:List Way)(c:Int)(n:Nat):(xO W c n).length=n:=by unfold xO;rw[zZ2,zb]
def eL (W:List Way)(c:Int)(n:Nat):(xO W c n).sum=hW W (c+n)-hW W c:=zD7 _ _ _
def gA {W:List Way}{c:Int}{n i k:Nat}(h:i+k<=n):(((xO W c n).drop i).take k).sum=hW W (c+i+k)-hW W (c+i):=by
 unfold xO;rw[<-yk2,<-yh0,zF2 c h,zD7]
def wy.zero {c:Int}{k:Nat}{W:List Way}(h:wy co N c k W):yg W c=some (0,none):=h.find (by
 obtain⟨r,rfl,_⟩:=h.first;exact z03)
def wy.had {c:Int}{k:Nat}{W:List Way}(h:wy co N c k W){x:Int}{l:Option Part}(e:yg W (c+k)=some (x,l)):zg4 co N c (c+k) x:=by
 have hw:=find_some e;refine⟨⟨_,h.back k hw (zU7)⟩,λy ps d=>?_⟩;obtain⟨w,a,e1,b⟩:=h.least _ rfl d (z90 _);have:=h.uniq hw a e1.symm;rw[show x=w.2.1 by rw[<-this]];exact b
def wy.off {c:Int}{k:Nat}{W:List Way}(h:wy co N c k W)(e:yg W (c+k)=none){z:Int}{ps:List Part}:¬Cut co N c (c+k) z ps:=λa=>by
 obtain⟨w,hw,e1,_⟩:=h.least _ rfl a (z90 _);exact find_none e w hw e1
noncomputable def xE (p:Part):Aa:=.tuple [.int p.1,.int p.2.1,.int p.2.2]
def zb3 :Option Part->Aa
 |none=>.none
 |some p=>xE p
noncomputable def tM (w:Way):Aa×Aa:=(.int w.1,.tuple [.int w.2.1,zb3 w.2.2])
noncomputable def wx (p:Int×Part):Aa:=.tuple [.int p.1,xE p.2]
theorem yZ (d:Int):∀W:List Way,vX (W.map tM) (.inl d)=(yg W d).map λp=>.tuple [.int p.1,zb3 p.2]
 |[]=>rfl
 |w::W=>by
  rw[z27];unfold tM;rw[vX];unfold yg;rw[z84];show(if decide (w.1=d)=true then _ else _)=_;by_cases h:w.1=d
  .rw[z39 h,if_pos rfl];rfl
  .rw[z38 h,if_neg (by decide)];exact yZ d W
def bJ {W:List Way}{d x:Int}{l:Option Part}(h:yg W d=none):putD (W.map tM) (.inl d) (.tuple [.int x,zb3 l])=(W++[(d,x,l)]).map tM:=by
 unfold putD;rw[yZ,h,Option.map_none,if_neg (by decide),z54];rfl
def dZ (p q:Part):PyData.eqv (xE p) (xE q)=decide (p=q):=by
 obtain⟨a,b,n⟩:=p;obtain⟨d,c,e⟩:=q;have:PyData.eqv (xE (a,b,n)) (xE (d,c,e))=(decide (a=d)&&(decide (b=c)&&(decide ((n:Int)=e)&&true))):=by
  rw[<-xJ,<-xJ,<-xJ];rfl
 rw[this];by_cases h1:a=d<;>by_cases h2:b=c<;>by_cases h3:n=e<;>simp[h1,h2,h3]<;>lia
def zl8 (p q:Part):ltD (xE p) (xE q)=some (ltQ p q):=by
 obtain⟨a,b,n⟩:=p;obtain⟨e,d,c⟩:=q;unfold xE ltD;simp only[kg,xJ,ltQ];by_cases h1:a=e
 .subst h1;by_cases h2:b=d
  .subst h2;by_cases h3:(n:Int)=c
   .have:n=c:=(zX4 h3);subst this;simp
   .simp only[decide_true,yc1,z38 h3,z52,z87,ltD,yh2,decide_false,yk3,z48];rw[show decide ((n:Int)<c)=decide (n<c) by by_cases h:n<c<;>simp[h]]
  .simp only[decide_true,yc1,z38 h2,z52,z87,ltD,yh2,decide_false,yk3,z48,z46,ye3]
 .simp only[z38 h1,z52,z87,ltD,z46,ye3]
def cF (p q:Int×Part):ltD (wx p) (wx q)=some (ltP p q):=by
 obtain⟨z,p⟩:=p;obtain⟨y,q⟩:=q;unfold wx ltD;simp only[kg,xJ,ltP,dZ];by_cases h1:z=y
 .subst h1;by_cases h2:p=q
  .subst h2;simp[ltQ]
  .simp only[decide_true,yc1,z38 h2,z52,z87,zl8,yh2,decide_false,yk3,z48]
 .simp only[z38 h1,z52,z87,ltD,z46,ye3]
theorem zm6 :∀{ds:List (Int×Part)},ds≠[]->minD (ds.map wx)=wx (lC ds)
 |[],h=>absurd rfl h
 |d::ds,_=>by
  show List.foldl _ (wx d) (ds.map wx)=wx (List.foldl _ d ds);rename_i a;clear a
  induction ds generalizing d with
  |nil=>rfl
  |cons x ds b=>
   rw[z27,yf4,yf4,cF];show List.foldl _ (if ltP x d=true then wx x else wx d) _=_;rw[<-b];split<;>rfl
def bV (ds:List (Int×Part)):zE1 (ds.map wx):=λx a y hy=>by
 obtain⟨p,_,rfl⟩:=z33.mp a;obtain⟨q,_,rfl⟩:=z33.mp hy;rw[cF];rfl
noncomputable def mB (co:Co)(N:Nat)(c g:Int):Aa:=
 match yg (yc co N c (g-c).toNat) g with
 |none=>.tuple [.str "off",.list ((yc co N c (g-c).toNat).map λw=>.int w.1)]
 |some (x,_)=>.tuple [.str "had",.int x,.list ((wV (yc co N c (g-c).toNat) c (g-c).toNat g).reverse.map xE),.list ((xO (yc co N c (g-c).toNat) c (g-c).toNat).map .int)]
end
section
variable {X:Cx}{L:Ev}{a b e:Ak}{pos p:Pos}{Q:Aa->Prop}
def fits_of {ns:List Int}{B:Int}(h:∀n∈ns,-B<=n/\n<=B)(hb:0<=B)(d:B<=1000000000000000)(c:ns.length<=1000):(∀n∈ns,-(2 ^ 62)<=n/\n<2 ^ 62)/\Fits ns:=by
 refine⟨λn hn=>by have:=h n hn;lia,λk hk=>?_⟩;have key:∀l:List Int,(∀n∈l,-B<=n/\n<=B)->-(B*l.length)<=l.sum/\l.sum<=B*l.length:=by
  intro l
  induction l with
  |nil=>intro _;simp
  |cons x l f=>
   intro c;have h1:=c x z03;have h2:=f λn hn=>c n (z01 _ hn);rw[ye5,z28,yj2,Int.mul_add];simp only[Int.natCast_one,Int.mul_one]
   lia
 have h1:=key (ns.take k) λn hn=>h n (z91 hn);have h2:B*((ns.take k).length:Int)<=1000000000000000*1000:=Int.mul_le_mul d (by rw[z49];exact zS0 c) (yf7 _) (by decide)
 lia
def jm (B:Int)(d:X.calm=true)(hg:Gl X "sum")(hm:X.mg "sum"=none)(h:EvD X L e λx=>∃ns:List Int,x=.list (ns.map .int)/\(∀n∈ns,-B<=n/\n<=B)/\ns.length<=1000/\Q (.int ns.sum))(hb:0<=B/\B<=1000000000000000:=by decide)(he:Af [e] X.env=(false,eval e X.env)::Af [] X.env:=by rfl):
  EvD X L (.Call (.Name "sum" p) [e] [] pos) Q:=
 og d hg hm (h.imp λx c=>by obtain⟨ns,e1,h1,h2,q⟩:=c;exact⟨ns,e1,(fits_of h1 hb.1 hb.2 h2).1,(fits_of h1 hb.1 hb.2 h2).2,q⟩) he
end
section
variable {X:Cx}{L:Ev}{a b c e:Ak}{pos p:Pos}{Q:Aa->Prop}{T:Bool->Prop}
theorem rM {op d:CmpOp}{g r:Int->Int->Bool}(J:OpR X (compareOp op) (rI0 λi j=>.bl (g i j)))(o:OpR X (compareOp d) (rI0 λi j=>.bl (r i j)))(hm:lastMarks [op,d] [b,c]=false)
  (h:EvD X L a λx=>EvD X L b λy=>∃i j,x=.int i/\y=.int j/\(if g i j=true then EvD X L c λz=>∃k,z=.int k/\T (r j k)else T false)):EvT X L (.Compare a [op,d] [b,c] pos) T:=λF B H R m k=>by
 refine⟨_,aa J o zf zf zf hm,h F B H _ m λx M H1 t t1 f A=>?_⟩;have m1:=m.kz f t1;refine t F B H1 _ m1 λy N s v q n G=>?_;obtain⟨i,j,e1,w,hq⟩:=v;subst e1 w;cases A.int_inv;cases G.int_inv;refine⟨i,j,rfl,rfl,_,rfl,?_⟩;cases hg:g i j with
 |true=>
  rw[hg]at hq;refine tO ?_;refine(by simpa using hq:EvD X L c _) F B s _ (m1.kz n q) λz K D E t3 C I=>?_;obtain⟨u,rfl,l⟩:=E;cases I.int_inv;exact⟨j,u,rfl,rfl,_,rfl,k _ D l t3 ((f.trans n).trans C)⟩
 |false=>
  rw[hg]at hq;exact tP ⟨_,rfl,k _ s (by simpa using hq) q (f.trans n)⟩
def zk9 (h:EvD X L a λx=>EvD X L b λy=>∃i j,x=.int i/\y=.int j/\(if decide (i<j)=true then EvD X L c λz=>∃k,z=.int k/\T (decide (j<=k))else T false))(hm:lastMarks [.Lt,.LtE] [b,c]=false:=by rfl):EvT X L (.Compare a [.Lt,.LtE] [b,c] pos) T:=rM qT vE hm h
def zm1 (h:EvD X L a λx=>EvD X L b λy=>∃i j,x=.int i/\y=.int j/\(if decide (i<=j)=true then EvD X L c λz=>∃k,z=.int k/\T (decide (j<k))else T false))(hm:lastMarks [.LtE,.Lt] [b,c]=false:=by rfl):EvT X L (.Compare a [.LtE,.Lt] [b,c] pos) T:=rM vE qT hm h
def bw (h:EvD X L a λx=>EvD X L b λy=>∃i j,x=.int i/\y=.int j/\(if decide (i<=j)=true then EvD X L c λz=>∃k,z=.int k/\T (decide (j<=k))else T false))(hm:lastMarks [.LtE,.LtE] [b,c]=false:=by rfl):EvT X L (.Compare a [.LtE,.LtE] [b,c] pos) T:=rM vE vE hm h
def zn9 (h:EvD X L a λx=>EvD X L b λy=>∃i j,x=.int i/\y=.int j/\(if decide (i<=j)=true then EvD X L c λz=>∃k,z=.int k/\Q (.bool (decide (j<k)))else Q (.bool false)))(hm:lastMarks [.LtE,.Lt] [b,c]=false:=by rfl):EvD X L (.Compare a [.LtE,.Lt] [b,c] pos) Q:=nO vE qT hm h
def za4 (h:EvD X L a λx=>EvD X L b λy=>∃i j,x=.int i/\y=.int j/\(if decide (i<=j)=true then EvD X L c λz=>∃k,z=.int k/\Q (.bool (decide (j<=k)))else Q (.bool false)))(hm:lastMarks [.LtE,.LtE] [b,c]=false:=by rfl):EvD X L (.Compare a [.LtE,.LtE] [b,c] pos) Q:=nO vE vE hm h
def aj :OpR X (compareOp .IsNot) (λx y H Q=>∃i j,x=.bl i/\y=.bl j/\Q (.bl (i != j)) H):=by
 intro pins s B H x y v u Q I f d h;obtain⟨i,j,rfl,rfl,q⟩:=h;cases f;cases d;exact isnot_bool (zC I q rfl)
def bY (h:EvD X L a λx=>EvD X L b λy=>∃i j,x=.bool i/\y=.bool j/\T (i != j)):EvT X L (.Compare a [.IsNot] [b] pos) T:=
 xR aj (yd _) (h.imp λx h=>h.imp λy d=>by obtain⟨i,j,e1,g,q⟩:=d;exact⟨i != j,λp H l m R f k z=>by
  subst e1 g;cases f.bl_inv;cases k.bl_inv;exact⟨i,j,rfl,rfl,z⟩,q⟩)
def zi2 (hg:Gl X "int")(hm:X.mg "int"=none)(h:EvD X L e λx=>∃k,x=.bool k/\Q (.int (if k then 1 else 0)))(he:Af [e] X.env=(false,eval e X.env)::Af [] X.env:=by rfl):
  EvD X L (.Call (.Name "int" p) [e] [] pos) Q:=λF B H R m k=>by
 refine⟨_,yw gJ hg hm boot_int (zr zf zD he) (he:=he),?_⟩;refine h F B H _ m λx i H1 f t1 d g=>?_;obtain⟨b,rfl,q⟩:=f;cases g.bl_inv;exact .inr ⟨b,rfl,k _ _ H1 q t1 d (.int _)⟩
end
section
variable {X:Cx}{L:Ev}{a b c e:Ak}{pos p p2 pos2:Pos}{Q:Aa->Prop}{T:Bool->Prop}
theorem pM {us:List Ab}{ns:List Int}(h:IntsAre us ns):Vals (ns.map V.int) us:=by
 induction h with
 |nil=>exact .nil
 |cons n t _ d=>exact .cons ⟨t,rfl⟩ d
def pX :yt X (.builtin "sorted") (λxs H Q=>∃(l:Ae) (zs:List Int),xs=[.ref l]/\H l=some (.lst (zs.map V.int))/\zs.length<64/\∀(i:Ae) (ys:List Int),H i=none->ys.Perm zs->ys.Pairwise (·<=·)->Q (.ref i) (upd H i (.lst (ys.map V.int)))):=by
 intro pins s B H xs us Q I r h;obtain⟨l,zs,rfl,m,g,q⟩:=h;obtain⟨u,rfl,v⟩:=vals1 r;cases v;obtain⟨d,k,pl,w⟩:=I.list (SqL.of m);have l1:=k.length;rw[zZ2]at l1;refine sorted_ints (vs:=d) pl.isList (intsAre_of k) (z29 (z26 l1.symm) g) λout f a1 a2 n=>?_;obtain⟨c,t⟩:=sortedAll_at s.heap d out;have j:s.heap.objs.size<=s.heap.objs.size+1:=ya1 _;refine⟨.ref (s.heap.objs.size+1),_,I.laid (o:=.lst (f.map V.int)) (t':=s.toks) (λb o e=>sortedAll_old e) j ⟨?_,out.toList,c,pM a1,by simpa using t⟩,rfl,q _ f (I.hok.fresh j) a2 n⟩;rw[zZ2,a2.length_eq,z71];exact ka g
def rT {Q:List Aa->Prop}(hg:Gl X "sorted")(hm:X.mg "sorted"=none)(h:EvD X L e λx=>∃zs:List Int,x=.list (zs.map .int)/\zs.length<64/\∀ys:List Int,ys.Perm zs->ys.Pairwise (·<=·)->Q (ys.map .int))(he:Af [e] X.env=(false,eval e X.env)::Af [] X.env:=by rfl):
  EvL X L (.Call (.Name "sorted" p) [e] [] pos) Q:=λF B H R m k=>by
 refine⟨_,yA pX hg hm boot_sorted (zr zf zD he) (he:=he),?_⟩;refine h F B H _ m λx r H1 j t1 d n=>?_;obtain⟨zs,rfl,g,q⟩:=j;have m1:=m.kz d t1;obtain⟨l,xs,rfl,h1,h2⟩:=n.lst_inv;have h3:=(zc h1).2;rw[h2.intsV]at h3;refine⟨l,zs,rfl,h3,g,λs ys f pm i=>?_⟩;have av:AVs (Gz F L B H1) (ys.map V.int) (ys.map .int):=by
  clear pm i
  induction ys with
  |nil=>exact .nil
  |cons y ys o=>exact .cons (.int y) o
 obtain⟨g1,g2,g3⟩:=m1.lay f av;exact k _ _ _ (q ys pm i) g1 (d.trans g2) (g3.back m d t1)
def gH (n:X.calm=true):yt X (.type "set") (λxs H Q=>∃(l:Ae) (zs:List Int),xs=[.ref l]/\H l=some (.lst (zs.map V.int))/\zs.length<1000/\∀(f:Ae),H f=none->Q (.ref f) (upd H f (.set (λk=>(firstMet (λi=>zs.getD i 0) zs.length).any (· == k)) (firstMet (λi=>zs.getD i 0) zs.length).length))):=by
 intro pins s B H xs us Q I r h;obtain⟨l,zs,rfl,m,w,q⟩:=h;obtain⟨u,rfl,t⟩:=vals1 r;cases t;obtain⟨d,j,pl,x⟩:=I.list (SqL.of m);have l1:=j.length;rw[zZ2]at l1;have sz:d.toArray.size=zs.length:=by simp[l1]
 refine PySem.call_set_list (items:=d.toArray) (ns:=zs) (I.ok.hd n) pl.isList (by simpa using intsAre_of j) (by rw[sz];unfold scanBound;lia) λh' v g hk=>?_;rw[sz]at g;exact⟨.ref s.heap.objs.size,_,I.laid (o:=.set _ _) (t':=v) (λb o e=>hk b o (z07 e) e) (zZ8 _) g,rfl,q _ (I.hok.fresh (zZ8 _))⟩
def nJ :yt X (.builtin "len") (λxs H Q=>∃(l:Ae) (S:Int->Bool) (n:Nat),xs=[.ref l]/\H l=some (.set S n)/\Q (.int n) H):=by
 intro pins s B H xs us Q I r h;obtain⟨l,S,n,rfl,f,q⟩:=h;obtain⟨u,rfl,i⟩:=vals1 r;cases i;obtain⟨o,k,j,t,g,hex,hd,_,_,d,hf,e⟩:=(show yi X.prog X.w H s.heap l (.set S n)from I.hok l _ f);unfold scanBound at d;refine call_len_set g hex hd hf (by lia) ⟨.int n,H,I.tok _,⟨_,by rw[e]⟩,q⟩
theorem wZ (val:Nat->Int):∀n,(∀i j,i<j->j<n->val i≠val j)->(firstMet val n).length=n
 |0,_=>rfl
 |n+1,h=>by
  rw[firstMet_succ];unfold step_dedup;have f:=wZ val n λi j a b=>h i j a (zZ7 b (z23 _ _));rw[if_neg]
  .rw[z24,f];rfl
  .rw[firstMet_any];intro z;rw[yh5]at z;obtain⟨x,d,e⟩:=z;obtain⟨i,hi,rfl⟩:=z33.mp d;exact h i n (yd0.mp hi) (z64 _) (by simpa using e)
def gS (r:X.calm=true)(hgl:Gl X "len")(g:X.mg "len"=none)(hg:Gl X "set")(hm:X.mg "set"=none)(h:EvD X L e λx=>∃zs:List Int,x=.list (zs.map .int)/\zs.length<1000/\Q (.int (firstMet (λi=>zs.getD i 0) zs.length).length))(he:Af [e] X.env=(false,eval e X.env)::Af [] X.env:=by rfl)
  (d:Af [.Call (.Name "set" p) [e] [] pos] X.env=(false,eval (.Call (.Name "set" p) [e] [] pos) X.env)::Af [] X.env:=by rfl):
  EvD X L (.Call (.Name "len" p2) [.Call (.Name "set" p) [e] [] pos] [] pos2) Q:=λF B H R m k=>by
 refine⟨_,yA nJ hgl g yd4 (zr (yw (gH r) hg hm PyProof.Rows.boot_set (zr zf zD he) (he:=he)) zD d) (he:=d),?_⟩;refine h F B H _ m λx u H1 o t1 n t=>?_;obtain⟨zs,rfl,j,q⟩:=o;have m1:=m.kz n t1;obtain⟨l,xs,rfl,h1,h2⟩:=t.lst_inv;have h3:=(zc h1).2;rw[h2.intsV]at h3;refine⟨l,zs,rfl,h3,j,λs f=>?_⟩;refine⟨s,_,_,rfl,zg,k _ _ _ q (t1.same (zH f)) (n.trans (Kz.of_same (zH f))) (.int _)⟩
end
section
variable {X:Cx}{L:Ev}{a b c d e:Ak}{pos p:Pos}{ta tb tc td:TE}{T:Bool->Prop}
def zo7 (r l m:R2)(ta tb tc td:TE):TE:=λB H Q=>ta B H λx H1=>tb B H1 λy q=>r x y q λz f=>∃k,z=.bl k/\
 (if k=true then tc B f λi o=>l y i o λj g=>∃h,j=.bl h/\(if h=true then td B g λu n=>m i u n Q else Q (.bl false) g)else Q (.bl false) f)
theorem gf {op g f:CmpOp}{r E i:R2}(ho:OpR X (compareOp op) r)(l:OpR X (compareOp g) E)(j:OpR X (compareOp f) i)(ha:PE X a ta)(hb:PE X b tb)(hc:PE X c tc)(hd:PE X d td)
  (hm:lastMarks [op,g,f] [b,c,d]=false):PT X (.Compare a [op,g,f] [b,c,d] pos) (bU (zo7 r E i ta tb tc td)):=by
 intro pins s B H Q I h;refine isTrue_chain (thn (ha pins s B H _ I h) λv s1 ⟨x,H1,I1,r1,J⟩=>test_link (thn (hb pins s1 B H1 _ I1 J) λu s2 ⟨y,H2,V,i,N⟩=>
  thn (ho pins s2 B H2 x y v u _ V r1 i N) λd s3 ⟨z,C,q,W,k,e,F⟩=>?_)) hm
 subst e;cases W;refine z50 ?_;cases k with
 |false=>
  obtain⟨k',n,m⟩:=F;cases n;exact ite_ff ⟨C,q,m⟩
 |true=>
  refine ite_tt (test_link (thn (hc pins s3 B C _ q F) λG s4 ⟨o,H4,I4,w,Z⟩=>thn (l pins s4 B H4 y o u G _ I4 i w Z) λd' s5 ⟨z2,A,t,r5,U,O,D⟩=>?_));subst O;cases r5;refine z50 ?_;cases U with
  |false=>
   obtain⟨k',n,m⟩:=D;cases n;exact ite_ff ⟨A,t,m⟩
  |true=>
   refine ite_tt (test_last (thn (hd pins s5 B A _ t D) λY M ⟨z3,H6,I6,r6,q6⟩=>thn (j pins M B H6 o z3 G Y _ I6 w r6 q6) λd' s7 ⟨z4,K,P,R,k3,S,q7⟩=>?_));subst S;cases R;exact z50 ⟨K,P,q7⟩
theorem fo (h:EvD X L a λx=>EvD X L b λy=>∃i j,x=.int i/\y=.int j/\(if decide (i<=j)=true then EvD X L c λz=>∃k,z=.int k/\(if decide (j<k)=true then EvD X L d λu=>∃m,u=.int m/\T (decide (k<=m))else T false)else T false))(hm:lastMarks [.LtE,.Lt,.LtE] [b,c,d]=false:=by rfl):
  EvT X L (.Compare a [.LtE,.Lt,.LtE] [b,c,d] pos) T:=λF B H R m k=>by
 refine⟨_,gf vE qT vE zf zf zf zf hm,h F B H _ m λx Q H1 v t1 g I=>?_⟩;have m1:=m.kz g t1;refine v F B H1 _ m1 λy U t C r l M=>?_;obtain⟨i,j,e1,E,hq⟩:=C;subst e1 E;cases I.int_inv;cases M.int_inv;have m2:=m1.kz l r;refine⟨i,j,rfl,rfl,_,rfl,?_⟩;cases hg:decide (i<=j)with
 |true=>
  rw[hg,if_pos rfl]at hq;refine tO ?_;refine hq F B t _ m2 λz P s K t3 q N=>?_;obtain⟨n,rfl,f⟩:=K;cases N.int_inv;refine⟨j,n,rfl,rfl,_,rfl,?_⟩;cases hg2:decide (j<n)with
  |true=>
   rw[hg2,if_pos rfl]at f;refine tO ?_;refine f F B s _ (m2.kz q t3) λu S G O A J D=>?_;obtain⟨w,rfl,o⟩:=O;cases D.int_inv;exact⟨n,w,rfl,rfl,_,rfl,k _ G o A (((g.trans l).trans q).trans J)⟩
  |false=>
   rw[hg2,if_neg (by decide)]at f;exact tP ⟨_,rfl,k _ s f t3 ((g.trans l).trans q)⟩
 |false=>
  rw[hg,if_neg (by decide)]at hq;exact tP ⟨_,rfl,k _ t hq r (g.trans l)⟩
end
def zC3 {X:Cx}{L:Ev}{e tg:Ak}{Q:List Aa->Prop}(h:EvD X L e λx=>∃ds,x=.tuple ds/\Q ds):EvI X L tg e Q:=λF B H R m k=>by
 refine⟨_,zC5 zf,h F B H _ m λx l H1 f t1 c g=>?_⟩;obtain⟨ds,rfl,q⟩:=f;obtain⟨a,xs,rfl,h1,h2⟩:=g.tup_inv;refine⟨a,rfl,⟨xs,SqT.of (zc h1).2⟩,k ds _ H1 q t1 c λi r p s=>⟨λd hd=>?_,λj=>?_⟩⟩
 .obtain⟨x,b,av⟩:=h2.get hd;have ha:=SqT.of (K:=X.K) (zc (s _ _ h1)).2;refine⟨⟨xs,x,ha,b⟩,λo n y=>?_⟩;obtain⟨e,y⟩:=y;subst e;have:=y xs ha;rw[b]at this;cases this;exact⟨zz.refl _,λ_=>av.same s⟩
 .exact⟨xs,SqT.of (zc (s _ _ h1)).2,by rw[h2.length];exact j⟩
def zV2 (ns zs:List Int):∃ms,tN ns zs ms:=by
 refine⟨ns.mergeSort λm k=>!lx (keyOf zs k) (keyOf zs m),List.mergeSort_perm ..,?_⟩;have h:=List.pairwise_mergeSort (le:=λm k=>!lx (keyOf zs k) (keyOf zs m)) (λa b c h1 h2=>?_) (λa b=>?_) ns
 .exact h.imp λ{a b} h=>by simpa using h
 .simp only[yg5]at h1 h2 ⊢;unfold lx at *;simp only[z92]at *
  lia
 .unfold lx;simp only[yb4,yg5,z92]
  lia
def cZ {ns zs ms ks:List Int}(h:tN ns zs ms)(h':tN ns zs ks):ms=ks:=by
 refine List.Perm.eq_of_pairwise (λa b _ _ h1 h2=>?_) h.2 h'.2 (h.1.trans h'.1.symm);unfold lx keyOf at h1 h2;simp only[z92]at h1 h2
 lia
def zr8 {zs:List Int}{many free:Nat}{bs cs:List Bool}(h:0<many)(m:tI zs many free zs.length bs)(c:tI zs many free zs.length cs):bs=cs:=by
 have e:∀j,bs.getD j false=cs.getD j false:=λj=>by
  by_cases b:zs.length / many*many<=j
  .rw[m.2.1 j b,c.2.1 j b]
  .have hk:j / many<zs.length / many:=by
    have:=Nat.div_lt_iff_lt_mul (x:=j) (y:=zs.length / many) h;exact this.mpr (Nat.lt_of_not_le b)
   obtain⟨ms,s,f⟩:=m.2.2 _ hk;obtain⟨ks,s',a⟩:=c.2.2 _ hk;cases cZ s s';have d:=yf1 j many;have l:=Nat.mod_lt j h;obtain⟨q,hq,eq⟩:=zB7 s (m:=j) (by lia) (by lia);have h1:=f q hq;have h2:=a q hq;rw[eq,z67]at h1 h2;rw[h1,h2]
 refine List.ext_getElem (by rw[m.1,c.1]) λj h1 h2=>?_;have:=e j;rw[z00,z00,zZ5 h1,zZ5 h2]at this;exact this
def ao {d:Aa}(hd:zb0 d){zs:List Int}{bs cs:List Bool}(h:wI d zs bs)(h':wI d zs cs):bs=cs:=by
 rcases hd with rfl|⟨many,free,rfl,f0,a,_⟩
 .rcases h with⟨_,rfl⟩|⟨_,_,h,_⟩
  .rcases h' with⟨_,rfl⟩|⟨_,_,h,_⟩
   .rfl
   .cases h
  .cases h
 .exact zr8 (z29 (z21 _) a) (nu h) (nu h')
section
variable {X:Cx}{L:Ev}{a b c d e:Ak}{pos p:Pos}{T:Bool->Prop}
def dq {ns:List Int}(h:∀n∈ns,-300000000000000000<=n/\n<=300000000000000000)(f:ns.length<=14):(∀n∈ns,-(2 ^ 62)<=n/\n<2 ^ 62)/\Fits ns:=by
 refine⟨λn hn=>by have:=h n hn;lia,λk hk=>?_⟩;have key:∀l:List Int,(∀n∈l,-300000000000000000<=n/\n<=300000000000000000)->-(300000000000000000*l.length)<=l.sum/\l.sum<=300000000000000000*l.length:=by
  intro l
  induction l with
  |nil=>intro _;simp
  |cons x l g=>
   intro f;have h1:=f x z03;have h2:=g λn hn=>f n (z01 _ hn);rw[ye5,z28,yj2]
   lia
 have h1:=key (ns.take k) λn hn=>h n (z91 hn);have h2:((ns.take k).length:Int)<=14:=by rw[z49];lia
 lia
def oq {Q:Aa->Prop}(g:X.calm=true)(hg:Gl X "sum")(hm:X.mg "sum"=none)(h:EvD X L e λx=>∃ns:List Int,x=.list (ns.map .int)/\(∀n∈ns,-300000000000000000<=n/\n<=300000000000000000)/\ns.length<=14/\Q (.int ns.sum))(he:Af [e] X.env=(false,eval e X.env)::Af [] X.env:=by rfl):
  EvD X L (.Call (.Name "sum" p) [e] [] pos) Q:=
 og g hg hm (h.imp λx f=>by obtain⟨ns,e1,h1,h2,q⟩:=f;exact⟨ns,e1,(dq h1 h2).1,(dq h1 h2).2,q⟩) he
end
abbrev jZ (X:Cx)(P:Ag)(w:Ai)(K:Ac)(mg:Str->Option Ab)(base:Ao):Prop:=X.prog=P/\X.w=w/\X.K=K/\X.mg=mg/\X.base=base
section
variable {X:Cx}{L:Ev}{e o:Ak}{es:List Ak}{pos p apos:Pos}{Q:Aa->Prop}{k:Nat}{φ:List A->(A->Prop)->Prop}{x m:Str}{C:Ae}{pl:Sem Bool}{P:Ag}{w:Ai}{K:Ac}{mg:Str->Option Ab}{base:Ao}
def zm9 (D:Cal P w K mg base x k φ)(c:jZ X P w K mg base)(hr:zR k X.A)(hg:Gl X x)(h:EvA X L (e::es) λas=>φ as λa=>Q a.d)
  (b:(x == ("__debug__":Str))=false:=by decide) (he:Af (e::es) X.env=(false,eval e X.env)::Af es X.env:=by rfl) (hpl:(backTo pos (Af es X.env)).any (·.1)=false:=by rfl):EvD X L (.Call (.Name x p) (e::es) [] pos) Q:=by
 obtain⟨rfl,rfl,rfl,rfl,rfl⟩:=c;exact oY D hr hg h b he hpl
def zn5 {Q:List Aa->Prop}(D:Cal P w K mg base x k φ)(c:jZ X P w K mg base)(hr:zR k X.A)(hg:Gl X x)(h:EvA X L (e::es) λas=>φ as λa=>∃ds,a=.own ds/\Q ds)
  (b:(x == ("__debug__":Str))=false:=by decide) (he:Af (e::es) X.env=(false,eval e X.env)::Af es X.env:=by rfl) (hpl:(backTo pos (Af es X.env)).any (·.1)=false:=by rfl):EvL X L (.Call (.Name x p) (e::es) [] pos) Q:=by
 obtain⟨rfl,rfl,rfl,rfl,rfl⟩:=c;exact wX D hr hg h b he hpl
def aO (D:uN P w K mg base x k [] φ)(c:jZ X P w K mg base)(hr:zR (k+1) X.A)(hg:Gl X x)(h:EvA X L (e::es) λas=>φ as λa=>Q a.d)
  (b:(x == ("__debug__":Str))=false:=by decide) (he:Af (e::es) X.env=(false,eval e X.env)::Af es X.env:=by rfl) (hpl:(backTo pos (Af es X.env)).any (·.1)=false:=by rfl):EvN X L (.Call (.Name x p) (e::es) [] pos) Q:=by
 obtain⟨rfl,rfl,rfl,rfl,rfl⟩:=c;exact zs1 D hr hg h b he hpl
def dQ (D:uv P w K mg base C m k φ)(c:jZ X P w K mg base)(hr:zR k X.A)(h:EvD X L o λx=>∃fs,x=vO C fs/\qz fs m=none/\EvA X L (e::es) λas=>φ (.dat (vO C fs)::as) λa=>Q a.d)
  (b:Af (e::es) X.env=(false,eval e X.env)::Af es X.env:=by rfl) (hpl:(backTo pos (Af es X.env)).any (·.1)=false:=by rfl)
  (g:eval (.Call (.Attribute o m apos) (e::es) [] pos) X.env=(do
   let ov <-eval o X.env
   standAt apos.atName
   let(f,first) <-holding [ov] (getMethod ov m pl)
   callWith pos f first (backTo pos (Af (e::es) X.env)) (backToKw pos (keywordEach [] X.env))):=by rfl):EvD X L (.Call (.Attribute o m apos) (e::es) [] pos) Q:=by
 obtain⟨rfl,rfl,rfl,rfl,rfl⟩:=c;exact vp D hr h b hpl g
end
section
variable {X:Cx}{L:Ev}{pos:Pos}{Q:Aa->Prop}
end
section
variable {X:Cx}{L:Ev}{e ix:Ak}{pos:Pos}{rest:List An}{E:xf}
end
end L2
namespace SetW
open PySem PyProof.Rows
section
variable {prog:Ag}{w:Ai}{A:Am}{E:Ab->Ad->Prop}{s:Ad}
end
section
variable {prog:Ag}{w:Ai}{A:Am}{E:Ab->Ad->Prop}{s:Ad}
end
section
variable {prog:Ag}{w:Ai}{A:Am}{R:Result->Ad->Prop}{I:Ae}{fp wr:List Ae}{G:Array GenState->Array GenState->Prop}{n:Nat}{P:Nat->Ab->Prop}{St:Nat->Ad->Prop}{b:Bool}
end
section
variable {prog:Ag}{w:Ai}{A:Am}{E:Ab->Ad->Prop}{s:Ad}
end
section
variable {prog:Ag}{w:Ai}{A:Am}{E:Ab->Ad->Prop}
end
section
variable {prog:Ag}{w:Ai}{A:Am}{E:Ab->Ad->Prop}{s:Ad}{I a:Ae}{i n ep:Nat}{o:Obj}{es:Array (Int×Ab)}{S:Int->Bool}{m:Nat}{b:Bool}{t:SetTable}{Q:Option Ab->Ad->Prop}
end
section
variable {prog:Ag}{w:Ai}{A:Am}{I a:Ae}{n ep:Nat}{o:Obj}{es:Array (Int×Ab)}{S:Int->Bool}{m:Nat}{b:Bool}{t:SetTable}{ord:List Ab}
end
section
variable {prog:Ag}{w:Ai}{A:Am}{E:Ab->Ad->Prop}{s:Ad}{a:Ae}{ep:Nat}{o:Obj}{es:Array (Int×Ab)}{S:Int->Bool}{m:Nat}{t:SetTable}
end
end SetW
namespace L2
open PySem PySem.Spec PyProof.Rows SetW
section
variable {X:Cx}{L:Ev}{e:Ak}{pos p p2 pos2:Pos}
end
end L2
namespace Tim
open PySem PyProof.Rows
section
variable {prog:Ag}{w:Ai}{A:Am}{E:Ab->Ad->Prop}{s:Ad}
end
section
variable {a b L:List Keyed}{i j k:Nat}
end
section
variable {a b out:Array Keyed}{i j k:Nat}
end
section
variable {prog:Ag}{w:Ai}{A:Am}{E:Ab->Ad->Prop}{s:Ad}{a₀:Array Keyed}
end
section
variable {a b L:List Keyed}{n m k:Nat}
end
section
variable {a b out:Array Keyed}{n m k:Nat}
end
section
variable {prog:Ag}{w:Ai}{A:Am}{E:Ab->Ad->Prop}{s:Ad}{a₀:Array Keyed}
end
section
variable {prog:Ag}{w:Ai}{A:Am}{E:Ab->Ad->Prop}{s:Ad}
end
section
variable {prog:Ag}{w:Ai}{A:Am}{E:Ab->Ad->Prop}{s:Ad}
end
section
variable {prog:Ag}{w:Ai}{A:Am}{E:Ab->Ad->Prop}{s:Ad}{a₀:Array Keyed}
end
open PyProof
section
variable {prog:Ag}{w:Ai}{A:Am}{E:Ab->Ad->Prop}{s:Ad}
end
end Tim
namespace SetW
open PySem PyProof.Rows
section
variable {prog:Ag}{w:Ai}{A:Am}{E:Ab->Ad->Prop}{s:Ad}{a:Ae}{ep:Nat}{o:Obj}{es:Array (Int×Ab)}{S:Int->Bool}{m:Nat}{t:SetTable}
end
end SetW
namespace L2
open PySem PySem.Spec PyProof.Rows SetW
section
variable {X:Cx}{L:Ev}{e:Ak}{pos p p2 pos2:Pos}
end
section
variable {X:Cx}{tg:Ak}
end
def ya.o {N P:List Str}{sc:Aq}(h1:sc.kind=.function:=by rfl)(h2:sc.isCoroutine=false:=by rfl)(h3:sc.isGenerator=false:=by rfl)(d:N.Nodup:=by decide +kernel)(a:N.take P.length=P:=by rfl)(b:∀x∈P,sc.names.lookup x=some .local\/sc.names.lookup x=some .cell:=by decide +kernel)(c:∀y∈sc.names,y.2≠.free:=by decide +kernel):ya N P sc:=⟨h1,h2,h3,d,a,b,c⟩
abbrev Ph :=List A->(A->Prop)->Prop
section
variable {P:Ag}{w:Ai}{K:Ac}{mg:Str->Option Ab}{base:Ao}
def FnD (K:Ac)(mg:Str->Option Ab)(x:Str)(st:An)(ps:List Str):Prop:=∃f fd,Fun K x x st f fd/\mg x=some (.ref f)/\Binds K fd ps []
def zN {x:Str}{st:An}{ps:List Str}{k:Nat}{φ:List A->(A->Prop)->Prop}(N:List Str)(G:FnD K mg x st ps)
  (a:∀(f:Ae) (cdv:Ab) (b:Am) (outer:List Ar) (s:Ad) (H:Hp) (E:XK) (as:List A) (Q:A->Prop),N.Nodup->zR k (b.deeper (envOfC x (zh st) s.heap.objs.size f cdv))->φ as Q->
   SvS (vv CX0 P w K mg base N x (zh st) f cdv b outer s H E).nox (as.map some++List.replicate (N.length-as.length) none) (zt st) {nx:=λ_=>Q (.dat .none),rt:=Q})
  (S:ya N ps (zh st):=by exact .o) (hlen:∀as Q,φ as Q->as.length=ps.length:=by intro _ _ h;repeat first|(obtain⟨rfl,_⟩:=h;rfl)|obtain⟨_,h⟩:=h):Cal P w K mg base x (k+1) φ:=by
 obtain⟨f,fd,F,hm,hb⟩:=G;exact zY6 F hm hb S hlen λcdv b outer s H E as Q hr h=>a f cdv b outer s H E as Q S.nd hr h
def bX {C f:Ae}{fd:Ap}{m d:Str}{st:An}{ps:List Str}{k:Nat}{φ:List A->(A->Prop)->Prop}(N:List Str)(c:Cls K C)(e:Meth K C m f)(F:Fun K m d st f fd)(hb:Binds K fd ps [])
  (a:∀(cdv:Ab) (b:Am) (outer:List Ar) (s:Ad) (H:Hp) (E:XK) (as:List A) (Q:A->Prop),N.Nodup->zR k (b.deeper (envOfC d (zh st) s.heap.objs.size f cdv))->φ as Q->
   SvS (vv CX0 P w K mg base N d (zh st) f cdv b outer s H E).nox (as.map some++List.replicate (N.length-as.length) none) (zt st) {nx:=λ_=>Q (.dat .none),rt:=Q})
  (S:ya N ps (zh st):=by exact .o) (hlen:∀as Q,φ as Q->as.length=ps.length:=by intro _ _ h;repeat first|(obtain⟨rfl,_⟩:=h;rfl)|obtain⟨_,h⟩:=h):uv P w K mg base C m (k+1) φ:=
 ⟨f,fd,ps,c,e,hb,fnA F S hlen λcdv b outer s H E as Q hr h=>a cdv b outer s H E as Q S.nd hr h⟩
end
end L2
set_option maxHeartbeats 4000000
namespace K54
open PySem PySem.Spec PyProof.Rows L2
noncomputable def top (i:Nat):An:=PySem.Challenge.pw_stayprice_k54_looker_at_papers.main.body.getD i (.Pass ⟨0,0,0,0⟩)
abbrev pj :An:=top 67
abbrev ab :An:=top 68
noncomputable def gF :Aq:=match zt pj with
 |[.Return (some (.List (.ListComp _ _ sc _::_) _)) _]=>sc
 |_=>zh pj
section
variable {P:Ag}{w:Ai}{K:Ac}{mg:Str->Option Ab}{base:Ao}
def zH9 :ya ["_law_script"] ["_law_script"] (zh pj):=⟨rfl,rfl,rfl,by decide +kernel,rfl,by decide +kernel,by decide +kernel⟩
def bW :zP ["_law_script"] (zh pj) ["_law_cell"] [none] gF:=⟨rfl,by decide +kernel,by decide +kernel,by decide +kernel,by decide +kernel,rfl,by decide +kernel⟩
def zp6 {f:Ae}{fd:Ap}(F:Fun K "_law_tape" "_law_tape" pj f fd)(T:zJ7 mg):yE P w K mg base CX0 1 f fd ["_law_script"] (kC K):=by
 refine F.ok zH9 (λvs H Q E h=>?_) (λcdv A outer s H vs Q E hr h=>?_)
 .obtain⟨a,ns,rfl,_⟩:=h;rfl
 .obtain⟨a,ns,rfl,G,hlen,k⟩:=h;refine⟨_,wq (vI (zc6 (zr
   (zt3 rfl bW (jI (uB pE (pv 0) pN (sf zu)))
    (λ_ _ _ _=>yj (i:=0) bW.nd rfl (Or.inl rfl))
    (λ_ _ _ _=>iB (vq ze0 (yA nk (by rfl) T.abs boot_abs (zr (pv 0) zD)) (ym aC zu zu) (yd _)))
    (λ_ _ _ _=>yA nk (by rfl) T.abs boot_abs (zr (pv 0) zD)))
   (zr (yw ur (by rfl) T.list boot_list (zr (uB pE (pv 0) pN (sf zu)) zD))
   (zr zu zD))))),?_⟩
  -- script[:63]
  refine⟨_,rfl,63,rfl,a,_,rfl,G,λl L=>?_⟩;obtain⟨ms,em,lm⟩:=dJ ns none (some 63);rw[em];refine⟨l,rfl,⟨_,SqL.of zg⟩,λacc d=>?_⟩;have r:acc≠l:=λz=>by rw[z,zg]at d;cases d
  have g:H acc=none:=by rw[zd r]at d;exact d
  have s0:zz H (upd H l (.lst (ms.map V.int))):=λb o e=>by rw[zd (zj e L)];exact e
  refine fM (K:=K) (a:=l) (xs:=ms.map V.int) (λi ys y C=>∃(bs:List Int) (v:Option V),ys=bs.map V.int/\bs.length<=i/\y=[v]/\C=upd (upd H l (.lst (ms.map V.int))) acc (.lst (bs.map V.int)))
   ⟨[],none,rfl,zZ8 _,rfl,rfl⟩ ?_ ?_ ?_
  .rintro i ys y C _ ⟨bs,v,rfl,_,rfl,rfl⟩;exact SqL.of (by rw[zd r.symm,zg])
  .rintro i x ys y C q ⟨bs,v,rfl,hb,rfl,rfl⟩;have hi:i<ms.length:=by
    have:=(zZ6.mp q).1
    rwa [zZ2]at this
   obtain⟨z,rfl⟩:∃z,x=V.int z:=by
    rw[z04]at q;cases e:ms[i]? with
    |none=>rw[e]at q;cases q
    |some z=>rw[e]at q;exact⟨z,(z34 q).symm⟩
   refine⟨_,rfl,z,rfl,_,_,rfl,rfl,⟨by decide,by decide,by decide⟩,_,_,rfl,rfl,_,rfl,?_⟩;refine dO (λ_=>?_) (λ_=>?_)
   .refine⟨_,rfl,z,rfl,zg,?_,bs++[if z<0 then -z else z],_,?_,?_,rfl,?_⟩
    .rw[zZ2];exact yo (by lia)
    .rw[z54];rfl
    .rw[z24];simp;lia
    .rw[tS,z54];rfl
   .exact⟨bs,_,rfl,by lia,rfl,rfl⟩
  .rintro ys y C ⟨bs,v,rfl,hb,rfl,rfl⟩;rw[zZ2]at hb
   -- list(script[:63])
   have s1:zz H (upd (upd H l (.lst (ms.map V.int))) acc (.lst (bs.map V.int))):=λb o e=>by rw[zd (zj e g)];exact s0 b o e
   refine⟨_,rfl,63,rfl,a,_,rfl,s1.seq G,λl2 p=>?_⟩;rw[em];refine⟨l2,_,rfl,.inl (SqL.of zg),λc u=>?_⟩;refine⟨(by show 3<=sizeLine;decide),λt B=>?_⟩;have n1:l2≠acc:=λz=>by rw[z,zg]at p;cases p
   have M:c≠l2:=λz=>by rw[z,zg]at u;cases u
   have j:upd (upd H l (.lst (ms.map V.int))) acc (.lst (bs.map V.int)) c=none:=by rw[zd M]at u;exact u
   have I:c≠acc:=λz=>by rw[z,zg]at j;cases j
   have D:t≠c:=λz=>by rw[z,zg]at B;cases B
   have n:upd (upd (upd H l (.lst (ms.map V.int))) acc (.lst (bs.map V.int))) l2 (.lst (ms.map V.int)) t=none:=by rw[zd D]at B;exact B
   have N:t≠l2:=λz=>by rw[z,zg]at n;cases n
   have m:upd (upd H l (.lst (ms.map V.int))) acc (.lst (bs.map V.int)) t=none:=by rw[zd N]at n;exact n
   have J:t≠acc:=λz=>by rw[z,zg]at m;cases m
   refine k t acc c _ ⟨0,bs,ms,I.symm,zg,?_,?_,by lia,by lia⟩ (s1.free m) g (s1.free j) λb o e=>?_
   .rw[zd J.symm,zd I.symm,zd n1.symm,zg]
   .rw[zd D.symm,zg]
   .have e1:=s1 b o e;rw[zd (zj e1 m),zd (zj e1 j),zd (zj e1 p)];exact e1
def ixv {B:L2.St}{H:Hp}{Q:V->Hp->Prop}{i:Nat}{k:Int}{t xs x}(b:H t=some (.lst xs))(e:atI xs k=some x)(q:Q x H)(a:B[i]?=some (some (.ref t)):=by rfl):tOp (zJ1 K) (zg3 i) (tC (.int k)) B H Q:=⟨_,a,t,_,k,_,rfl,rfl,SqL.of b,e,q⟩
def ixx {H:Hp}{Q:V->Prop}{k:Int}{t xs x}(a:H t=some (.lst xs))(e:atI xs k=some x)(q:Q x):∃p ys i v,V.ref t=.ref p/\V.int k=.int i/\SqL K H p ys/\atI ys i=some v/\Q v:=⟨t,_,k,_,rfl,rfl,SqL.of a,e,q⟩
def lnx {H:Hp}{t}{xs:List V}{Q:Ae->List V->Prop}(a:H t=some (.lst xs))(q:Q t xs):∃p ys,[V.ref t]=[.ref p]/\(SqL K H p ys\/SqT K H p ys)/\Q p ys:=⟨t,_,rfl,.inl (SqL.of a),q⟩
def opx {i j:Int}{C Q:Int->Int->Prop}(c:C i j)(q:Q i j):∃a b,V.int i=.int a/\V.int j=.int b/\C a b/\Q a b:=⟨_,_,rfl,rfl,c,q⟩
def opy {i j:Int}{Q:Int->Int->Prop}(q:Q i j):∃a b,V.int i=.int a/\V.int j=.int b/\Q a b:=⟨_,_,rfl,rfl,q⟩
def uU :ya ["_law_tape_here","_law_many","_law_found","_law_cell","_law_number"] ["_law_tape_here","_law_many"] (zh ab):=⟨rfl,rfl,rfl,by decide +kernel,rfl,by decide +kernel,by decide +kernel⟩
def zk3 {f:Ae}{fd:Ap}(F:Fun K "_law_draw" "_law_draw" ab f fd)(T:zJ7 mg):yE P w K mg base CX0 1 f fd ["_law_tape_here","_law_many"] za2:=by
 refine F.ok uU (λvs H Q E h=>?_) (λcdv A outer s H vs Q E hr h=>?_)
 .obtain⟨t,b,c,many,rfl,_⟩:=h;rfl
 .obtain⟨t,b,c,many,rfl,⟨n,bs,cs,D,M,hb,hc,lb,lc⟩,p,O,k⟩:=h;have G:t≠b:=cI M hb (iL bs);have S:t≠c:=cI M hc (iL cs);have I:many.natAbs.log2<9000:=log2_small p O
  -- tape[2]=tape[2]+1
  refine xq (λB H1=>B=[some (.ref t),some (.int many),none,none,none]/\H1=upd H t (.lst [.ref b,.ref c,.int (n+1)]))
   ⟨_,lM (ym uP (yB zU (pv 0) zu (λ_ _=>rfl)) zu) (kW (pv 0) zu set_list),?_⟩ ?_
  .refine ixv M rfl ?_;refine opy ?_;exact⟨_,rfl,t,_,2,2,rfl,rfl,M,rfl,rfl,rfl⟩
  rintro B H1 ⟨rfl,C⟩;have a0:H1 t=some (.lst [.ref b,.ref c,.int (n+1)]):=by rw[C];exact zg
  have R:H1 b=some (.lst (bs.map V.int)):=by rw[C,zd G.symm];exact hb
  have X:H1 c=some (.lst (cs.map V.int)):=by rw[C,zd S.symm];exact hc
  have L:oi t b H H1:=λa h1 h2=>by rw[C,zd h1]
  clear C
  -- while len(tape[0]) > 0 and tape[0][0]==0:tape[0].pop(0)
  refine xq (λB q=>∃g:List Int,g.length<=63/\B=[some (.ref t),some (.int many),none,none,none]/\q t=some (.lst [.ref b,.ref c,.int (n+1)])/\q b=some (.lst (g.map V.int))/\q c=some (.lst (cs.map V.int))/\oi t b H q)
   ⟨_,nL yc7 (zd9 (vq nY (yA yO (by rfl) T.len yd4 (zr (yB zU (pv 0) zu (λ_ _=>rfl)) zD)) zu (yd _))
     (jT (vq jo (yB zU (yB zU (pv 0) zu (λ_ _=>rfl)) zu (λ_ _=>rfl)) zu (yd _)))).pt
    (wq (ik (zw9 PySem.F.plainAttrs_list PySem.F.slot_list_pop PySem.F.type_list_pop cX (yB zU (pv 0) zu (λ_ _=>rfl)) (zr zu zD)))),?_⟩ ?_
  .refine⟨λm B q=>∃g:List Int,m=g.length/\g.length<=63/\B=[some (.ref t),some (.int many),none,none,none]/\q t=some (.lst [.ref b,.ref c,.int (n+1)])/\q b=some (.lst (g.map V.int))/\q c=some (.lst (cs.map V.int))/\oi t b H q,
    ⟨_,bs,rfl,lb,rfl,a0,R,X,L⟩,?_⟩
   rintro m B q ⟨g,rfl,v,rfl,d,e,o,l⟩;refine ixv d rfl ?_;refine lnx e ?_;refine opy ?_;refine⟨_,rfl,?_⟩;refine dO (λ_=>?_) (λ_=>?_)
   .cases g with
    |nil=>rename_i z;simp at z
    |cons z r=>
     refine ixv d rfl ?_;refine ixx e at0 ?_;refine⟨rfl,_,rfl,?_⟩;refine dO (λ_=>?_) (λ_=>?_)
     .refine⟨_,λa2 H' h'=>h',?_⟩;refine ixv d rfl ?_;refine⟨.inl ⟨rfl,_,SqL.of e⟩,b,_,0,0,_,rfl,rfl,e,by decide,by decide,zW4,rfl,r.length,?_,r,rfl,?_,rfl,?_,zg,?_,?_⟩
      .simp
      .simp at v;lia
      .rw[zd G];exact d
      .rw[zd D.symm];exact o
      .exact l.trans λa h1 h2=>by rw[zd h2]
     .exact⟨_,v,rfl,d,e,o,l⟩
   .exact⟨_,v,rfl,d,e,o,l⟩
  rintro B q ⟨g,v,rfl,d,e,o,l⟩
  -- if len(tape[0]) > 0:..
  refine xq (λB u=>B=[some (.ref t),some (.int many),none,none,none]/\q=u)
   ⟨_,ze1 (vq nY (yA yO (by rfl) T.len yd4 (zr (yB zU (pv 0) zu (λ_ _=>rfl)) zD)) zu (yd _))
    (zJ (wk (i:=2) uU.nd rfl (Or.inl rfl) (ym vF (yB zU (yB zU (pv 0) zu (λ_ _=>rfl)) zu (λ_ _=>rfl)) (pv 1)))
    (zJ (lM (ym uz (yB zU (yB zU (pv 0) zu (λ_ _=>rfl)) zu (λ_ _=>rfl)) (pv 1)) (kW (yB zU (pv 0) zu (λ_ _=>rfl)) zu set_list))
    (wq (vI (pv 2))))) oh,?_⟩ ?_
  .refine ixv d rfl ?_;refine lnx e ?_;refine opy ?_;refine⟨_,rfl,?_⟩;refine dO (λ_=>?_) (λ_=>?_)
   .cases g with
    |nil=>rename_i z;simp at z
    |cons z r=>
     refine ixv d rfl ?_;refine ixx e at0 ⟨_,rfl,?_⟩;refine opx p ?_;refine ixv d rfl ?_;refine ixx e at0 ⟨_,rfl,?_⟩;refine opx ⟨p,I⟩ ?_;refine ixv d rfl ?_;refine⟨b,_,0,0,rfl,rfl,e,ix0,_,rfl,?_⟩;refine k _ _ (yf5 _ (yi3 p)) (yc8 _ p) ⟨n+1,(z / many)::r,cs,D,?_,zg,?_,?_,lc⟩ ?_
     .rw[zd G];exact d
     .rw[zd D.symm];exact o
     .simpa using v
     .exact l.trans λa h1 h2=>by rw[zd h2]
   .exact⟨rfl,rfl⟩
  rintro B u ⟨rfl,rfl⟩
  -- cell=5;if len(tape[1]) > 0:..
  refine xq (λB u=>B=[some (.ref t),some (.int many),none,some (.int 5),none]/\q=u) ⟨_,wk (i:=3) uU.nd rfl (Or.inl rfl) zu,rfl,rfl⟩ ?_;rintro B u ⟨rfl,rfl⟩;refine xq (λB u=>∃z:Int,B=[some (.ref t),some (.int many),none,some (.int z),none]/\q=u)
   ⟨_,ze1 (vq nY (yA yO (by rfl) T.len yd4 (zr (yB zU (pv 0) zu (λ_ _=>rfl)) zD)) zu (yd _))
    (wq (wk (i:=3) uU.nd rfl (Or.inl rfl) (yB zU (yB zU (pv 0) zu (λ_ _=>rfl)) (ym vF (yB zU (pv 0) zu (λ_ _=>rfl)) (yA yO (by rfl) T.len yd4 (zr (yB zU (pv 0) zu (λ_ _=>rfl)) zD))) (λ_ _=>rfl)))) oh,?_⟩ ?_
  .refine ixv d rfl ?_;refine lnx o ?_;refine opy ?_;refine⟨_,rfl,?_⟩;refine dO (λJ=>?_) (λ_=>?_)
   .have Y:0<cs.length:=by simpa using J
    have Z:(0:Int)<((cs.map V.int).length:Int):=by rw[zZ2];lia
    have h1:=yf5 (n+1) (yi3 Z);have h2:=yc8 (n+1) Z;obtain⟨j,hj⟩:=z66 h1;have N:j<cs.length:=by rw[hj,zZ2]at h2;lia
    refine ixv d rfl ?_;refine ixv d rfl ?_;refine ixv d rfl ?_;refine lnx o ?_;refine opx Z ?_;refine ixx (x:=.int cs[j]) o ?_ ⟨_,rfl,rfl⟩;rw[hj];exact yn (by rw[z04,zZ5 N];rfl)
   .exact⟨5,rfl,rfl⟩
  rintro B u ⟨z,rfl,rfl⟩
  -- the numbers
  refine xq (λB u=>∃y:Int,(0<=y/\y<2147483647)/\B=[some (.ref t),some (.int many),none,some (.int z),some (.int y)]/\q=u)
   ⟨_,wk (i:=4) uU.nd rfl (Or.inl rfl) (ym vF (ym rS (ym uP (ym uP (ym vF (pv 3) zu) (ym rS zu (yB zU (pv 0) zu (λ_ _=>rfl)))) zu) zu) zu),?_⟩ ?_
  .refine⟨_,rfl,?_⟩;refine opx (by show(0:Int)<999983;decide) ?_;refine ixv d rfl ?_;refine opx (.inl ⟨by decide,by decide⟩) ?_;refine opy ?_;refine opy ?_;refine opx (.inr ⟨by decide,by decide⟩) ?_;exact opx (by show(0:Int)<2147483647;decide) ⟨_,⟨yf5 _ (by decide),yc8 _ (by decide)⟩,rfl,rfl⟩
  rintro B u ⟨y,⟨a1,U⟩,rfl,rfl⟩;refine xq (λB u=>∃y:Int,(0<=y/\y<2147483647)/\B=[some (.ref t),some (.int many),none,some (.int z),some (.int y)]/\q=u)
   ⟨_,wk (i:=4) uU.nd rfl (Or.inl rfl) (ym vF (ym uP (ym uP (ym rS (pv 4) (pv 4)) (ym rS zu (yB zU (pv 0) zu (λ_ _=>rfl)))) zu) zu),?_⟩ ?_
  .refine⟨_,rfl,_,rfl,?_⟩;refine opx (.inl ⟨by lia,by lia⟩) ?_;refine ixv d rfl ?_;refine opx (.inl ⟨by decide,by decide⟩) ?_;refine opy ?_;refine opy ?_;exact opx (by show(0:Int)<2147483629;decide) ⟨_,⟨yf5 _ (by decide),Int.lt_trans (yc8 _ (by decide)) (by decide)⟩,rfl,rfl⟩
  rintro B u ⟨y2,⟨a1,U⟩,rfl,rfl⟩;refine⟨_,wq (vI (ym vF (ym uz (ym vF (ym rS (ym uz (pv 4) zu) zu) zu) zu) (pv 1))),?_⟩;refine⟨_,rfl,?_⟩;refine opx ⟨by decide,by decide +kernel⟩ ?_;refine opx (.inr ⟨by decide,by decide⟩) ?_;refine opx (by show(0:Int)<2147483587;decide) ?_;refine opx ⟨by decide,by decide +kernel⟩ ⟨_,rfl,?_⟩;refine opx p ?_;exact k _ _ (yf5 _ (yi3 p)) (yc8 _ p) ⟨n+1,g,cs,D,d,e,o,v,lc⟩ l
end
end K54
set_option compiler.extract_closed false
set_option hygiene false in
local macro_rules
 |`(tactic| exists $f,$a)=>`(tactic| first|refine $f 0 $a ?_|refine $f 1 $a ?_|refine $f 2 $a ?_|refine $f 3 $a ?_|refine $f 4 $a ?_|refine $f 5 $a ?_|refine $f 6 $a ?_|refine $f 7 $a ?_|refine $f 8 $a ?_|refine $f 9 $a ?_|refine $f 10 $a ?_|refine $f 11 $a ?_|refine $f 12 $a ?_|refine $f 13 $a ?_|refine $f 14 $a ?_|refine $f 15 $a ?_|refine $f 16 $a ?_|refine $f 17 $a ?_)
 |`(tactic| exists $f)=>`(tactic| with_reducible refine $f ?_)
 |`(tactic| specialize $p)=>`(tactic| with_reducible show $p)
set_option hygiene false in
local macro_rules
 |`(tactic| and_intros)=>`(tactic| repeat (first
  |((specialize EvD _ _ _ _);first
   |((specialize EvD _ _ (.Name _ _) _);exists zi,rfl)
   |((specialize EvD _ _ (.Constant _ _ _) _);first|exists yz|exists xA|exists iI|exists rL)
   |((specialize EvD _ _ (.BinOp (.Constant (.int 10) _ _) .Pow (.Constant (.int 6) _ _) _) _);refine oA (r:=1000000) ⟨by decide,by decide,by decide⟩ (by decide) ?_)
   |((specialize EvD _ _ (.BinOp (.Constant (.int 10) _ _) .Pow (.Constant (.int 12) _ _) _) _);refine oA (r:=1000000000000) ⟨by decide,by decide,by decide⟩ (by decide) ?_)
   |((specialize EvD _ _ (.BinOp (.Constant (.int 10) _ _) .Pow (.Constant (.int 9) _ _) _) _);refine oA (r:=1000000000) ⟨by decide,by decide,by decide⟩ (by decide) ?_)
   |((specialize EvD _ _ (.BinOp (.Constant (.int 10) _ _) .Pow (.Constant (.int 11) _ _) _) _);refine oA (r:=100000000000) ⟨by decide,by decide,by decide⟩ (by decide) ?_)
   |((specialize EvD _ _ (.BinOp _ .Add (.List _ _) _) _);refine EvL.d (wU ?_))
   |((specialize EvD _ _ (.BinOp (.List _ _) .Add _ _) _);refine EvL.d (wU ?_))
   |((specialize EvD _ _ (.BinOp (.Subscript _ (.Slice _ _ none _) _) .Add _ _) _);refine EvL.d (wU ?_))
   |((specialize EvD _ _ (.BinOp _ .Add (.Subscript _ (.Slice _ _ none _) _) _) _);refine EvL.d (wU ?_))
   |((specialize EvD _ _ (.BinOp (.Call (.Attribute _ "rules" _) _ _ _) .Add _ _) _);refine EvL.d (wU ?_))
   |exists vL
   |exists lL
   |exists ev_mod
   |exists zs6
   |exists ev_mul
   |exists ev_shl
   |exists zF6
   |exists cK
   |exists oK
   |((specialize EvD _ _ (.Subscript _ (.Slice _ _ none _) _) _);refine EvL.d (cL ?_))
   |((specialize EvD _ _ (.Subscript _ _ _) _);refine wC hr.one (fun _ _=>rfl) ?_)
   |((specialize EvD _ _ (.List _ _) _);refine EvL.d (yK ?_))
   |((specialize EvD _ _ (.Call (.Name "len" _) [.Call (.Name "set" _) _ _ _] _ _) _);refine gS rfl (by rfl) nb.len (by rfl) (by assumption) ?_)
   |((specialize EvD _ _ (.Call (.Name "len" _) _ _ _) _);refine oX (by rfl) nb.len ?_)
   |((specialize EvD _ _ (.Call (.Name "min" _) [_,_] _ _) _);refine ev_min rfl (by rfl) nb.min ?_)
   |((specialize EvD _ _ (.Call (.Name "max" _) [_,_] _ _) _);refine ev_max rfl (by rfl) nb.max ?_)
   |((specialize EvD _ _ (.Call (.Name "list" _) _ _ _) _);refine EvL.d (pG (by rfl) nb.list ?_))
   |((specialize EvD _ _ (.Call (.Name "repr" _) _ _ _) _);refine zm5 hr.gd hr.units (by rfl) nb.repr ?_)
   |((specialize EvD _ _ (.Call (.Name "min" _) [_] _ _) _);refine ev_minI rfl hr.few (by rfl) nb.min ?_)
   |((specialize EvD _ _ (.Call (.Name "isinstance" _) _ _ _) _);first|refine sA (by rfl) nb.isinstance (by rfl) nb.int boot_int ?_|refine sA (by rfl) nb.isinstance (by rfl) nb.bool boot_bool ?_|refine sA (by rfl) nb.isinstance (by rfl) nb.str boot_str ?_|refine sA (by rfl) nb.isinstance (by rfl) nb.list boot_list ?_|refine sA (by rfl) nb.isinstance (by rfl) nb.tuple boot_tuple ?_)
   |((specialize EvD _ _ (.Call (.Name "int" _) _ _ _) _);refine zi2 (by rfl) nb.int ?_)
   |((specialize EvD _ _ (.Call (.Name _ _) _ _ _) _);first|refine zm9 (by with_reducible assumption) (by exact⟨rfl,rfl,rfl,rfl,rfl⟩) (hr.mono (by decide)) (by rfl) ?_|refine EvN.d (aO (by with_reducible assumption) (by exact⟨rfl,rfl,rfl,rfl,rfl⟩) (hr.mono (by decide)) (by rfl) ?_))
   |((specialize EvD _ _ (.Call (.Attribute _ _ _) (_::_) _ _) _);refine dQ (by with_reducible assumption) (by exact⟨rfl,rfl,rfl,rfl,rfl⟩) (hr.mono (by decide)) ?_)
   |((specialize EvD _ _ (.Call (.Attribute _ _ _) [] _ _) _);refine ev_meth0R (by with_reducible assumption) (by exact⟨rfl,rfl,rfl,rfl,rfl⟩) (hr.mono (by decide)) ?_)
   |((specialize EvD _ _ (.Compare _ [_] _ _) _);first|exists zz2|exists zQ0|exists zQ8|exists zP6|exists zE8|exists ev_notN|((specialize EvD _ _ (.Compare _ [.Eq] _ _) _);refine zB5 hr.units ?_)|((specialize EvD _ _ (.Compare _ [.NotEq] _ _) _);refine zE9 hr.units ?_)|((specialize EvD _ _ (.Compare _ [.In] _ _) _);refine ev_ink hr.one ?_)|((specialize EvD _ _ (.Compare _ [.NotIn] _ _) _);refine ev_nink hr.one ?_)|((specialize EvD _ _ (.Compare _ [.Is] [.Constant (.bool _) _ _] _) _);refine ev_isB ?_))
   |((specialize EvD _ _ (.Compare _ [_,_] _ _) _);first|refine zn9 ?_|refine ev_ltle ?_|refine za4 ?_)
   |((specialize EvD _ _ (.BoolOp _ _ _) _);first|exists zI6|exists zR0|exists aG)
   |exists ja)
  |((specialize EvA _ _ _ _);first
   |exists zA
   |((specialize EvA _ _ (.Name "_law_tape_here" _::_) _);exists oH,rfl)
   |refine zk ?_)
  |((specialize EvT _ _ _ _);first
   |((specialize EvT _ _ (.Compare _ [_] _ _) _);first|exists zK6|exists et_le|exists zt0|exists zO8|exists vP|exists zj4|((specialize EvT _ _ (.Compare _ [.Eq] _ _) _);refine zE7 hr.units ?_)|((specialize EvT _ _ (.Compare _ [.NotEq] _ _) _);refine zJ6 hr.units ?_)|((specialize EvT _ _ (.Compare _ [.In] _ _) _);refine zE4 hr.one ?_)|((specialize EvT _ _ (.Compare _ [.NotIn] _ _) _);refine zs4 hr.one ?_)|((specialize EvT _ _ (.Compare _ [.Is] [.Constant (.bool _) _ _] _) _);refine et_isB ?_)|((specialize EvT _ _ (.Compare _ [.IsNot] [.Constant (.bool _) _ _] _) _);refine bY ?_))
   |((specialize EvT _ _ (.Compare _ [_,_] _ _) _);first|refine zm1 ?_|refine zk9 ?_|refine bw ?_)
   |exists oR
   |((specialize EvT _ _ (.BoolOp _ _ _) _);exists EvW.t)
   |refine rA ?_)
  |((specialize EvL _ _ _ _);first
   |exists yK
   |((specialize EvL _ _ (.Call (.Name "list" _) _ _ _) _);refine pG (by rfl) nb.list ?_)
   |((specialize EvL _ _ (.Call (.Name _ _) _ _ _) _);refine zn5 (by with_reducible assumption) (by exact⟨rfl,rfl,rfl,rfl,rfl⟩) (hr.mono (by decide)) (by rfl) ?_)
   |((specialize EvL _ _ (.Call (.Attribute _ _ _) [] _ _) _);refine el_meth0R (by with_reducible assumption) (by exact⟨rfl,rfl,rfl,rfl,rfl⟩) (hr.mono (by decide)) ?_)
   |((specialize EvL _ _ (.Subscript _ (.Slice _ _ none _) _) _);refine cL ?_)
   |((specialize EvL _ _ (.BinOp _ .Add _ _) _);refine wU ?_))
  |((specialize EvW _ _ _ _);first
   |exists dw
   |exists zM7
   |exists pY
   |exists zC6)
  |((specialize EvO _ _ _ _);first
   |exists zh8
   |exists zp1)
  |((specialize lX _ _ _);first
   |refine ixk rfl rfl rfl ?_
   |refine zS4 ?_
   |refine ixk_1 ?_)
  |((specialize aw _ _ _ _);first
   |refine ink rfl rfl ?_
   |refine ink_hind ?_
   |refine inkT rfl rfl ?_)
  |((specialize mF _ _ _);first
   |exists zp2
   |exists zn8
   |exists eqk_bool
   |refine eqk rfl rfl rfl rfl ?_)
  |((specialize SvS _ _ _ _);first
   |((specialize SvS _ (List.set _ _ _) _ _);dsimp only[List.set])
   |((specialize SvS _ _ (zt _) _);show SvS _ _ (_::_) _)
   |((specialize SvS _ _ (.Assign [.Name _ _] (.List [] _) _::_) _);exists xu,nd)
   |((specialize SvS _ _ (.Assign [.Name _ _] _ _::_) _);exists yf,nd)
   |((specialize SvS _ _ (.Expr (.Call (.Attribute _ "append" _) _ _ _) _::_) _);exists uV,rfl)
   |((specialize SvS _ _ (.Return (some (.Name _ _)) _::_) _);exists xr,rfl)
   |exists yH
   |exists sv_cont
   |exists sv_pass
   |exists ue
   |exists zM
   |((with_reducible refine jv ?hk ?_);case hk=>first|rfl|decide +kernel)
   |((with_reducible refine tY ?hk ?_);case hk=>first|rfl|decide +kernel))
  |((specialize yL _ _);refine⟨_,rfl,by first|decide|lia,by first|decide|(show _<big;unfold big;lia),fun _ _ _=>?_⟩)
  |((with_reducible refine zz8 ?hk ?_);case hk=>first|rfl|decide +kernel)
  |((with_reducible refine zu6 ?hk ?_);case hk=>first|rfl|decide +kernel)
  |refine⟨_,_,rfl,rfl,?_⟩
  |refine⟨_,_,_,rfl,rfl,rfl,?_⟩
  |refine⟨_,rfl,z25 rfl,?_⟩
  |refine⟨_,rfl,rfl,?_⟩
  |refine⟨_,rfl,?_⟩))
namespace K54
open PySem PySem.Spec PyProof.Rows L2
abbrev kL :An:=top 3
abbrev iE :An:=top 4
abbrev zy8 :An:=top 5
abbrev zP3 :An:=top 6
abbrev zs7 :An:=top 7
abbrev nv :An:=top 8
abbrev zz7 :An:=inClass (top 41) 0
abbrev za0 :An:=inClass (top 41) 3
abbrev zp4 :An:=inClass (top 42) 0
abbrev zI9 :An:=inClass (top 43) 0
abbrev zX9 :An:=inClass (top 44) 0
abbrev zp3 :An:=inClass (top 45) 0
abbrev zE3 :An:=inClass (top 46) 0
abbrev zH6 :An:=inClass (top 47) 0
abbrev zR7 :An:=inClass (top 48) 0
abbrev cb :An:=top 50
abbrev gc :An:=top 51
abbrev cP :An:=top 52
abbrev iG :An:=top 53
abbrev zz6 :An:=top 54
abbrev hG :An:=top 55
def mL (d:Aa):zX (.str "price") d=(isNone d||sD d):=rfl
def ku (d:Aa):zX (.str "come") d=isBool d:=rfl
def zf6 (d:Aa):zX (.str "go") d=isBool d:=rfl
def nA (d:Aa):zX (.str "least") d=yY 1 14 d:=rfl
def kh (d:Aa):zX (.str "most") d=yY 1 14 d:=rfl
def kI (d:Aa):zX (.str "deal") d=(isNone d||rZ d):=rfl
def gC (d:Aa):zX (.str "fee") d=sD d:=rfl
theorem zF {lo hi:Int}{d:Aa}(h:yY lo hi d=true):∃i,d=.int i/\lo<=i/\i<=hi:=by
 cases d with
 |int i=>exact⟨i,rfl,z41 (ya4.mp h).1,z41 (ya4.mp h).2⟩
 |_=>cases h
theorem bool_inv {d:Aa}(h:isBool d=true):∃b,d=.bool b:=by
 cases d with
 |bool b=>exact⟨b,rfl⟩
 |_=>cases h
def uW {d:Aa}(h:rZ d=true):∃m f:Int,d=.tuple [.int m,.int f]/\2<=m/\m<=14/\1<=f/\f<=m-1:=by
 unfold rZ at h;split at h
 .obtain⟨h1,h2⟩:=ya4.mp h;obtain⟨_,rfl,h3,c⟩:=zF h2;obtain⟨_,e,a,b⟩:=zF h1;cases e;exact⟨_,_,rfl,a,b,h3,c⟩
 .cases h
theorem none_or {d:Aa}{p:Bool}(h:(isNone d||p)=true):d=.none\/p=true:=by
 cases d with
 |none=>exact .inl rfl
 |_=>exact .inr h
def xC {d:Aa}(h:xV d=true):∃(s:Str) (i j:Int) (v:Aa),s∈words/\d=.tuple [.str s,.int i,.int j,v]/\0<=i/\i<=j/\j<=1000000/\zX (.str s) v=true:=by
 obtain⟨s,a,b,v,c,rfl⟩:=tF h;obtain⟨h1,h2⟩:=ya4.mp (show(vb (.tuple [a,b])&&zX (.str s) v)=true from h);unfold vb zJ9 at h1;split at h1
 .rename_i k e;split at e
  .rename_i z;cases z;split at e
   .rename_i q;cases e;obtain⟨f,g⟩:=ya4.mp q;obtain⟨_,e1,n,a1⟩:=zF f;obtain⟨_,m,o,l⟩:=zF g;cases e1;cases m;have:=z41 h1;exact⟨s,_,_,v,c,rfl,n,by lia,l,h2⟩
   .cases e
  .cases e
 .cases h1
def vK {s:Str}{v:Aa}(a:s∈words)(h:zX (.str s) v=true):v.hasDict=false/\noL v=true:=by
 have w:∀{lo hi:Int},yY lo hi v=true->v.hasDict=false/\noL v=true:=λz=>by obtain⟨_,rfl,_⟩:=zF z;exact⟨rfl,rfl⟩
 have b:isBool v=true->v.hasDict=false/\noL v=true:=λz=>by obtain⟨_,rfl⟩:=bool_inv z;exact⟨rfl,rfl⟩
 simp only[words,zZ9,z31,z57]at a;rcases a with rfl|rfl|rfl|rfl|rfl|rfl|rfl
 .rcases none_or h with rfl|h
  .exact⟨rfl,rfl⟩
  .exact w h
 .exact b h
 .exact b h
 .exact w h
 .exact w h
 .rcases none_or h with rfl|h
  .exact⟨rfl,rfl⟩
  .obtain⟨_,_,rfl,_⟩:=uW h;exact⟨rfl,rfl⟩
 .exact w h
def bG :Ph:=λas Q=>∃i:Int,as=[.dat (.int i)]/\Q (.dat (.bool true))
def cJ :Ph:=λas Q=>∃i lo hi:Int,as=[.dat (.int i),.dat (.int lo),.dat (.int hi)]/\lo<=i/\i<=hi/\Q (.dat (.bool true))
def zJ5 :Ph:=λas Q=>∃i j:Int,as=[.dat (.tuple [.int i,.int j])]/\Q (.dat (.bool true))
def zL0 :Ph:=λas Q=>∃i:Int,as=[.dat (.int i)]/\0<=i/\i<=1000000/\Q (.dat (.bool true))
def zh2 :Ph:=λas Q=>∃i j:Int,as=[.dat (.tuple [.int i,.int j])]/\0<=i/\i<=j/\j<=1000000/\Q (.dat (.bool true))
def zR5 :Ph:=λas Q=>∃d,as=[.dat d]/\sD d=true/\Q (.dat (.bool true))
def zS5 :Ph:=λas Q=>∃d,as=[.dat d]/\rZ d=true/\Q (.dat (.bool true))
def zM8 :Ph:=λas Q=>∃s d,as=[.dat (.str s),.dat d]/\s∈words/\zX (.str s) d=true/\Q (.dat (.bool true))
def zQ2 :Ph:=λas Q=>∃d,as=[.dat d]/\xV d=true/\Q (.dat (.bool true))
section
variable {P:Ag}{w:Ai}{K:Ac}{mg:Str->Option Ab}{base:Ao}{cs:Cs}
def jw (F:FnD K mg "is_whole" kL ["thing"])(nb:NbT mg):Cal P w K mg base "is_whole" 1 bG:=by
 refine zN ["thing"] F λ_ _ _ _ _ _ _ _ Q nd hr h=>?_;obtain⟨i,rfl,q⟩:=h;and_intros;exact q
def kU (F:FnD K mg "is_whole_within" iE ["thing","lowest","highest"])(a:Cal P w K mg base "is_whole" 1 bG):Cal P w K mg base "is_whole_within" 2 cJ:=by
 refine zN ["thing","lowest","highest"] F λ_ _ _ _ _ _ _ _ Q nd hr h=>?_;obtain⟨i,lo,hi,rfl,h1,h2,q⟩:=h;and_intros;refine zz8 (z39 h1) ?_;and_intros;rw[z39 h2];exact q
def dH (F:FnD K mg "is_pair" zy8 ["thing"])(nb:NbT mg):Cal P w K mg base "is_pair" 1 zJ5:=by
 refine zN ["thing"] F λ_ _ _ _ _ _ _ _ Q nd hr h=>?_;obtain⟨i,j,rfl,q⟩:=h;and_intros;exact q
def gL (F:FnD K mg "is_day" zP3 ["thing"])(gl:∃t,mg "LAST_DAY"=some (.int 1000000 t))(a:Cal P w K mg base "is_whole_within" 2 cJ):Cal P w K mg base "is_day" 3 zL0:=by
 refine zN ["thing"] F λ_ _ _ _ _ _ _ _ Q nd hr h=>?_;obtain⟨i,rfl,h1,h2,q⟩:=h;and_intros;exact wg (by rfl) gl (zA ⟨_,_,_,rfl,h1,h2,q⟩)
def dM (F:FnD K mg "is_pair_of_days" zs7 ["thing"])(a:Cal P w K mg base "is_pair" 1 zJ5)(b:Cal P w K mg base "is_day" 3 zL0):Cal P w K mg base "is_pair_of_days" 4 zh2:=by
 refine zN ["thing"] F λ_ _ _ _ _ _ _ _ Q nd hr h=>?_;obtain⟨i,j,rfl,h1,h2,h3,q⟩:=h;and_intros;refine⟨_,_,rfl,?_⟩;and_intros;refine⟨h1,by lia,?_⟩;and_intros;exact⟨by lia,h3,q⟩
def mH (F:FnD K mg "is_stretch" nv ["thing"])(a:Cal P w K mg base "is_pair_of_days" 4 zh2):Cal P w K mg base "is_stretch" 5 zh2:=by
 refine zN ["thing"] F λ_ _ _ _ _ _ _ _ Q nd hr h=>?_;obtain⟨i,j,rfl,h1,h2,h3,q⟩:=h;and_intros;refine⟨_,_,rfl,h1,h2,h3,?_⟩;and_intros;rw[z39 h2];exact q
def mi (F:FnD K mg "is_coins" cb ["thing"])(gl:∃t,mg "MOST_COINS"=some (.int 1000000000000 t))(a:Cal P w K mg base "is_whole_within" 2 cJ):Cal P w K mg base "is_coins" 3 zR5:=by
 refine zN ["thing"] F λ_ _ _ _ _ _ _ _ Q nd hr h=>?_;obtain⟨d,rfl,h,q⟩:=h;obtain⟨i,rfl,h1,h2⟩:=zF h;and_intros;exact wg (by rfl) gl (zA ⟨_,_,_,rfl,h1,h2,q⟩)
def kK (F:FnD K mg "is_deal" gc ["thing"])(gl:∃t,mg "MOST_NIGHTS"=some (.int 14 t))(b:Cal P w K mg base "is_pair" 1 zJ5)(c:Cal P w K mg base "is_whole_within" 2 cJ):Cal P w K mg base "is_deal" 3 zS5:=by
 refine zN ["thing"] F λ_ _ _ _ _ _ _ _ Q nd hr h=>?_;obtain⟨d,rfl,h,q⟩:=h;obtain⟨m,f,rfl,h1,h2,h3,a⟩:=uW h;and_intros;refine⟨_,_,rfl,?_⟩;and_intros;refine wg (by rfl) gl (zA ⟨_,_,_,rfl,h1,h2,?_⟩);and_intros;exact⟨_,_,_,rfl,h3,a,q⟩
def mY (F:FnD K mg "is_worth" cP ["word","thing"])(nb:NbT mg)(gl:∃t,mg "MOST_NIGHTS"=some (.int 14 t))(c:Cal P w K mg base "is_whole_within" 2 cJ)(g:Cal P w K mg base "is_coins" 3 zR5)(e:Cal P w K mg base "is_deal" 3 zS5):Cal P w K mg base "is_worth" 4 zM8:=by
 refine zN ["word","thing"] F λ_ _ _ _ _ _ _ _ Q nd hr h=>?_;obtain⟨s,d,rfl,a,h,q⟩:=h;simp only[words,zZ9,z31,z57]at a;rcases a with rfl|rfl|rfl|rfl|rfl|rfl|rfl
 .rcases none_or h with rfl|h
  .and_intros;exact q
  .obtain⟨i,rfl,_⟩:=zF h;and_intros;exact⟨h,q⟩
 .obtain⟨b,rfl⟩:=bool_inv h;and_intros;exact q
 .obtain⟨b,rfl⟩:=bool_inv h;and_intros;exact q
 .obtain⟨i,rfl,h1,h2⟩:=zF h;and_intros;exact wg (by rfl) gl (zA ⟨_,_,_,rfl,h1,h2,q⟩)
 .obtain⟨i,rfl,h1,h2⟩:=zF h;and_intros;exact wg (by rfl) gl (zA ⟨_,_,_,rfl,h1,h2,q⟩)
 .rcases none_or h with rfl|h
  .and_intros;exact q
  .obtain⟨m,f,rfl,_⟩:=uW h;and_intros;exact⟨h,q⟩
 .and_intros;exact⟨h,q⟩
def ki (F:FnD K mg "is_rule" iG ["thing"])(nb:NbT mg)(c:Cal P w K mg base "is_stretch" 5 zh2)(e:Cal P w K mg base "is_worth" 4 zM8):Cal P w K mg base "is_rule" 6 zQ2:=by
 refine zN ["thing"] F λ_ _ _ _ _ _ _ _ Q nd hr h=>?_;obtain⟨d,rfl,h,q⟩:=h;obtain⟨s,i,j,v,a,rfl,h1,h2,h3,b⟩:=xC h;have hf:=(vK a b).1;and_intros;refine⟨true,by simp[PyData.hasDict,PyData.hasDictAll,hf],rfl,?_⟩;and_intros;refine⟨_,_,rfl,h1,h2,h3,?_⟩;and_intros;exact⟨_,_,rfl,a,b,q⟩
noncomputable def rg (C:Ae)(a b v:Aa):Aa:=vO C [(.str "first",a),(.str "last",b),(.str "worth",v)]
noncomputable def uo (cs:Cs):Aa->Aa
 |.tuple [.str w,a,b,v]=>rg (cs.of w) a b v
 |_=>.none
def mf (C:Ae):Ph:=λas Q=>∃a b v,as=[.dat a,.dat b,.dat v]/\noL a=true/\noL b=true/\noL v=true/\Q (.dat (rg C a b v))
def zM1 (cs:Cs):Ph:=λas Q=>∃s a b v,as=[.dat (.str s),.dat a,.dat b,.dat v]/\s∈words/\noL a=true/\noL b=true/\noL v=true/\Q (.dat (rg (cs.of s) a b v))
def mS (cs:Cs):Ph:=λas Q=>∃d,as=[.dat d]/\xV d=true/\Q (.dat (uo cs d))
def kY (C:Ae)(w:Str):Ph:=λas Q=>∃a b v,as=[.dat (rg C a b v)]/\Q (.dat (.str w))
def rG (C:Ae):Ph:=λas Q=>∃(a b day:Int) (v:Aa),as=[.dat (rg C (.int a) (.int b) v),.dat (.int day)]/\Q (.dat (.bool (decide (a<=day)&&decide (day<=b))))
def dr (F:FnD K mg "made" zz6 ["word","first","last","worth"])(g:uN P w K mg base "Price" 1 [] (mf cs.price))(f:uN P w K mg base "Come" 1 [] (mf cs.come))(i:uN P w K mg base "Go" 1 [] (mf cs.go))(e:uN P w K mg base "Least" 1 [] (mf cs.least))(j:uN P w K mg base "Most" 1 [] (mf cs.most))(k:uN P w K mg base "Deal" 1 [] (mf cs.deal))(l:uN P w K mg base "Fee" 1 [] (mf cs.fee)):Cal P w K mg base "made" 3 (zM1 cs):=by
 refine zN ["word","first","last","worth"] F λ_ _ _ _ _ _ _ _ Q nd hr h=>?_;obtain⟨s,a,b,v,rfl,c,ha,hb,d,q⟩:=h;simp only[words,zZ9,z31,z57]at c;rcases c with rfl|rfl|rfl|rfl|rfl|rfl|rfl<;>and_intros<;>exact⟨_,_,_,rfl,ha,hb,d,q⟩
def ji (F:FnD K mg "rule_of" hG ["thing"])(CR:Cal P w K mg base "is_rule" 6 zQ2)(c:Cal P w K mg base "made" 3 (zM1 cs)):Cal P w K mg base "rule_of" 7 (mS cs):=by
 refine zN ["thing"] F λ_ _ _ _ _ _ _ _ Q nd hr h=>?_;obtain⟨d,rfl,h,q⟩:=h;obtain⟨s,i,j,v,a,rfl,h1,h2,h3,b⟩:=xC h;and_intros;refine⟨h,?_⟩;and_intros;exact⟨_,_,_,_,rfl,a,rfl,rfl,(vK a b).2,q⟩
def yX {x:Str}{C f fT fE fW:Ae}{fd:Ap}(R:rJ K C f fT fE fW)(hm:mg x=some (.ref C))(F:Fun K "__init__" "Rule.__init__" zz7 f fd)(hb:Binds K fd ["self","first","last","worth"] []):uN P w K mg base x 1 [] (mf C):=by
 refine⟨C,f,fd,_,[],hm,R.makes,hb,.nil,F.ok (N:=["self","first","last","worth"]) .o (λvs H Q E h=>?_) (λcdv A outer s H vs Q E hr h=>?_)⟩
 .obtain⟨_,as,_,_,_,_,_,rfl,_,_,_,_,_,_,_,c,⟨a,b,v,rfl,_⟩,_⟩:=h;exact congrArg (·+1) c.length
 .obtain⟨G,as,T,p,dx,M,H1,rfl,i,I,hn,rfl,rfl,t,o,c,⟨a,b,v,rfl,n1,D,L,q⟩,r⟩:=h;cases c with
  |cons B c=>cases c with
   |cons J c=>cases c with
    |cons O c=>
     cases c;rename_i x y z;refine⟨_,zJ (oE (pv 0) (pv 1) rfl) (zJ (oE (pv 0) (pv 2) rfl) (wq (oE (pv 0) (pv 3) rfl))),_,rfl,_,rfl,p,C,dx,[],rfl,zg,R.cl,R.nf,(by decide:0<1000),_,rfl,_,rfl,p,C,dx,_,rfl,zg,R.cl,R.nl,(show 1<1000 by decide),_,rfl,_,rfl,p,C,dx,we "last" y (we "first" x []),rfl,zg,R.cl,R.nw,(show 2<1000 by decide),?_⟩;show Q .non _;rw[tS,tS,tS];have g:zz G.H0 (upd (upd G.H0 dx (.own p)) p (.ins C dx (zU1 x y z))):=λa o e=>by rw[zd (zj e i),zd (zj e I)];exact e
     have k:∀{u:V} {d:Aa},AV (sub (λy=>¬G.O0 y) G.H0) u d->noL d=true->AV (sub (λy=>¬G.O0 y/\∀xs,G.H0 y≠some (.lst xs)) (upd (upd G.H0 dx (.own p)) p (.ins C dx (zU1 x y z)))) u d:=λh n=>h.noL (λa o S e=>by
      obtain⟨e1,j⟩:=zc e;exact zy ⟨e1,λxs l=>by rw[j]at l;cases l;exact S trivial⟩ (g _ _ j)) n
     refine r _ _ q ⟨t.same g,Kz.of_same g,.ins (zy ⟨λe=>?_,λxs e=>by rw[i]at e;cases e⟩ zg) (.cons (k B n1) (.cons (k J D) (.cons (k O L) .nil)))⟩;obtain⟨u,m,_⟩:=o p e;rw[i]at m;cases m
def yV {C f fI fT fE:Ae}{fd:Ap}{c d:Str}{st:An}{j:Nat}{p1 p2:Pos}(R:rJ K C fI fT fE f)(F:Fun K "word" d st f fd)(hb:Binds K fd ["self"] [])(S:ya ["self"] ["self"] (zh st))(e:zt st=[.Return (some (.Constant (.str c) j p1)) p2]):uv P w K mg base C "word" 1 (kY C c):=by
 refine bX ["self"] R.cl R.word F hb (λ_ _ _ _ _ _ _ Q nd hr h=>?_) S;obtain⟨a,b,v,rfl,q⟩:=h;rw[e];exact yH (xA q)
def yr {C f fI fT fW:Ae}{fd:Ap}(R:rJ K C fI fT f fW)(F:Fun K "tells" "Rule.tells" za0 f fd)(hb:Binds K fd ["self","day"] []):uv P w K mg base C "tells" 1 (rG C):=by
 refine bX ["self","day"] R.cl R.tells F hb λ_ _ _ _ _ _ _ Q nd hr h=>?_;obtain⟨a,b,day,v,rfl,q⟩:=h;and_intros;refine pC R.cl R.nf (zi 0 rfl ⟨_,_,rfl,rfl,?_⟩);and_intros;refine yh (λz=>?_) (λz=>?_)
 .rw[z,z48]at q;exact pC R.cl R.nl (zi 0 rfl ⟨_,_,rfl,rfl,_,rfl,q⟩)
 .rw[z,z46]at q;exact q
end
abbrev zz9 :An:=top 59
abbrev xh :An:=inClass (top 58) 0
abbrev iP :An:=inClass (top 58) 1
abbrev jF :An:=inClass (top 58) 2
abbrev dW :An:=top 49
noncomputable def xo (C:Ae)(cs:Cs)(ds:List Aa):Aa:=vO C [(.str "kept",.list (ds.map (uo cs)))]
def Rules (ds:List Aa):Prop:=∀d∈ds,xV d=true/\SeqAt.shaped d=true/\d.hasDict=false
def bR (cs:Cs):Ph:=λas Q=>∃ds,as=[.dat (.list ds)]/\Rules ds/\ds.length<=24/\Q (.own (ds.map (uo cs)))
def oN (C:Ae)(cs:Cs):Ph:=λas Q=>∃ds,(as=[.dat (.list ds)]\/(as=[.dat .none]/\ds=[]))/\Rules ds/\ds.length<=24/\Q (.dat (xo C cs ds))
def rH {cs:Cs}{d:Aa}(h:xV d=true):∃(s:Str) (a b v:Aa),s∈words/\d=.tuple [.str s,a,b,v]/\uo cs d=rg (cs.of s) a b v:=by
 obtain⟨s,a,b,v,c,rfl⟩:=tF h;exact⟨s,a,b,v,c,rfl,rfl⟩
noncomputable def zM6 :Aq:=match zt iP with
 |[.Return (some (.ListComp _ _ sc _)) _]=>sc
 |_=>zh iP
noncomputable def tbU :List (Str×V):=[("price",.non),("come",.bl true),("go",.bl true),("least",.int 1),("most",.int 14),("deal",.non),("fee",.int 0)]
noncomputable def zf3 (x:Str):Aa:=if x="price"\/x="deal" then .none else if x="come"\/x="go" then .bool true else if x="least" then .int 1 else if x="most" then .int 14 else .int 0
def zC2 {x:Str}(h:x∈words):∃v,tbU.lookup x=some v/\scV (zf3 x)=some v:=by
 simp only[words,zZ9,z31,z57]at h;rcases h with rfl|rfl|rfl|rfl|rfl|rfl|rfl
 .exact⟨.non,by decide +kernel,by decide +kernel⟩
 .exact⟨.bl true,by decide +kernel,by decide +kernel⟩
 .exact⟨.bl true,by decide +kernel,by decide +kernel⟩
 .exact⟨.int 1,by decide +kernel,by decide +kernel⟩
 .exact⟨.int 14,by decide +kernel,by decide +kernel⟩
 .exact⟨.non,by decide +kernel,by decide +kernel⟩
 .exact⟨.int 0,by decide +kernel,by decide +kernel⟩
noncomputable def zk6 (w:Str)(day:Int):Aa->Bool
 |.tuple [.str x,.int a,.int b,_]=>decide (x=w)&&(decide (a<=day)&&decide (day<=b))
 |_=>false
noncomputable def jE :Aa->Aa
 |.tuple [_,_,_,v]=>v
 |_=>.none
noncomputable def zl (ds:List Aa)(w:Str)(day:Int):Aa:=match ds.reverse.find? (zk6 w day)with
 |some d=>jE d
 |none=>zf3 w
theorem rK {p:Aa->Bool}{e:Aa}:∀{l:List Aa}{i:Nat},(∀j<i,∀d,l[j]?=some d->p d=false)->l[i]?=some e->p e=true->l.find? p=some e
 |[],i,_,h,_=>by simp at h
 |d::l,0,_,h,q=>by
  simp at h;subst h;simp[z84,q]
 |d::l,i+1,a,h,q=>by
  have hd:=a 0 (yf8 _) d rfl;rw[z84,hd];exact rK (i:=i) (λj b x c=>a (j+1) (Nat.succ_lt_succ b) x (by simpa using c)) (by simpa using h) q
def zi7 {p:Aa->Bool}{l:List Aa}(h:∀(j:Nat) d,l[j]?=some d->p d=false):l.find? p=none:=by
 rw[List.find?_eq_none];intro x a;obtain⟨j,b⟩:=List.mem_iff_getElem?.mp a;rw[h j x b];simp
def jN :List A->(A->Prop)->Prop:=λas Q=>∃x,as=[.dat (.str x)]/\x∈words/\Q (.dat (zf3 x))
def tQ (C:Ae)(cs:Cs):List A->(A->Prop)->Prop:=λas Q=>∃ds x day,as=[.dat (xo C cs ds),.dat (.str x),.dat (.int day)]/\Rules ds/\x∈words/\Q (.dat (zl ds x day))
section
variable {P:Ag}{w:Ai}{K:Ac}{mg:Str->Option Ab}{base:Ao}{cs:Cs}
def ze4 (F:FnD K mg "kept_rules" zz9 ["things"])(nb:NbT mg)(k:∃t,mg "MOST_RULES"=some (.int 24 t))(j:Cal P w K mg base "rule_of" 7 (mS cs)):Cal P w K mg base "kept_rules" 8 (bR cs):=by
 refine zN ["things","kept","number","thing","rule"] F λ_ _ _ _ _ _ _ _ Q nd hr h=>?_;obtain⟨ds,rfl,g,l,q⟩:=h;and_intros;refine zQ (.many [2,3]) (pR (by rfl) nb.enumerate (zi 0 rfl (⟨_,rfl,?_⟩)));refine zB (λi L=>∃v2 c v4,L=[some (.dat (.list ds)),some (.own ((ds.take i).map (uo cs))),v2,c,v4]) ⟨none,none,none,rfl⟩ ?_ ?_
 .rintro i d L hd ⟨v2,c,v4,rfl⟩;obtain⟨e,he,rfl⟩:=wa hd;have f:=(g e (z47 he)).1;have hi:=(zZ6.mp he).1;obtain⟨s',a,b,v,m,rfl,n⟩:=rH (cs:=cs) f;have e:(ds.take (i+1)).map (uo cs)=(ds.take i).map (uo cs)++[uo cs (.tuple [.str s',a,b,v])]:=by
   rw[z75,he,z54];rfl
  rw[e];refine⟨_,rfl,?_⟩;and_intros;refine⟨f,?_⟩;and_intros;refine⟨by rw[zZ2,z49];lia,?_⟩;and_intros;exact⟨_,_,_,rfl⟩
 .rintro L ⟨v2,c,v4,rfl⟩;rw[xX,z80];refine ue (jJ 1 rfl (zt0 (oX (by rfl) nb.len (zi 1 rfl ⟨_,rfl,wg (by rfl) k ⟨_,_,rfl,rfl,?_⟩⟩))));refine tY (z38 ?_) ?_
  .rw[zZ2]
   lia
  .and_intros;exact q
theorem mK {ds:List Aa}(f:Rules ds):wY (ds.map (uo cs))=true:=by
 induction ds with
 |nil=>rfl
 |cons d r j=>
  have e:=j λx g=>f x (z01 _ g);have h1:=(f d z03).1;obtain⟨s',a,b,v,k,rfl,h⟩:=rH (cs:=cs) h1;obtain⟨_,_,_,_,c,i,_,_,_,hw⟩:=xC h1;cases i;have z3:=(vK c hw).2;rw[z27,h];simp only[wY,e,Bool.and_true];simp[rg,vO,noL,sE,z3]
def zX0 :ya ["self","rules"] ["self","rules"] (zh xh):=.o
def cW {f C:Ae}{dV:Ab}{fd:Ap}(F:zH0 K "__init__" "Book.__init__" xh dV f fd)(c:Cls K C)(na:yG K C "kept")(e:Cal P w K mg base "kept_rules" 8 (bR cs)):yE P w K mg base CX0 9 f fd ["self","rules"] (spI C (oN C cs)):=by
 refine zO2 (N:=[]) F zX0 c na rfl (λas Q h=>?_) (λcdv i outer s H E as Q hr h=>?_) (λ_ _ _ _ _ _=>rfl) (Or.inl rfl)
 .obtain⟨ds,h|⟨h,_⟩,_⟩:=h<;>rw[h]<;>rfl
 .obtain⟨ds,h|⟨h,g⟩,a,b,q⟩:=h
  .subst h;exact wX e hr (by rfl) (zk (ja (vP (zi 1 rfl (tP (zi 1 rfl (zA ⟨_,rfl,a,b,_,rfl,mK a,q⟩)))))))
  .subst h g;exact wX e hr (by rfl) (zk (ja (vP (zi 1 rfl (tO (EvL.d (yK (zA ⟨_,rfl,z25 rfl,zA ⟨[],rfl,a,b,_,rfl,mK a,q⟩⟩))))))))
def gU {a:Ae}(F:FnD K mg "usual" dW ["word"])(c:mg "USUAL"=some (.ref a))(b:iK K w a tbU):Cal P w K mg base "usual" 1 jN:=by
 refine zN ["word"] F λ_ _ _ _ _ _ _ _ Q nd hr h=>?_;obtain⟨x,rfl,d,q⟩:=h;obtain⟨v,h1,h2⟩:=zC2 d;exact yH (za6 (by rfl) c b (zi 0 rfl ⟨x,zf3 x,v,rfl,h1,h2,q⟩))
def kJ {f C:Ae}{fd:Ap}(c:Cls K C)(na:yG K C "kept")(y:Meth K C "tells_of" f)(F:Fun K "tells_of" "Book.tells_of" jF f fd)(hb:Binds K fd ["self","word","day"] [])(nb:NbT mg)(r:Cal P w K mg base "usual" 1 jN)(A:∀u∈words,uv P w K mg base (cs.of u) "word" 1 (kY (cs.of u) u))(s:∀u∈words,uv P w K mg base (cs.of u) "tells" 1 (rG (cs.of u)))
  (o:∀u∈words,Cls K (cs.of u)/\yG K (cs.of u) "worth"):uv P w K mg base C "tells_of" 2 (tQ C cs):=by
 refine bX ["self","word","day","rule"] c y F hb λ_ _ _ _ _ _ _ Q nd hr h=>?_;obtain⟨ds,x,day,rfl,D,B,q⟩:=h;refine zQ (.one 3) (zI3 (by rfl) nb.reversed (pC c na (zi 0 rfl ⟨_,_,rfl,rfl,⟨_,rfl,?_⟩⟩)));refine zB (λi L=>(∃n,L=[some (.dat (xo C cs ds)),some (.dat (.str x)),some (.dat (.int day)),n])/\∀j<i,∀d,ds.reverse[j]?=some d->zk6 x day d=false) ⟨⟨none,rfl⟩,λj p=>absurd p (Nat.not_lt_zero _)⟩ ?_ ?_
 .rintro i d L hd ⟨⟨n,rfl⟩,hno⟩;rw[<-List.map_reverse,z04,z22]at hd;obtain⟨e,he,rfl⟩:=hd;have m:e∈ds:=yh6.mp (z47 he);obtain⟨u,a,b,v,l,rfl,_,_,_,_⟩:=xC (D e m).1;refine⟨_,rfl,?_⟩;refine ue (EvW.t (zi4 (λ_ k=>zG8 (di (A u l) hr (zi 3 rfl ⟨_,rfl,rfl,_,_,_,rfl,zi 1 rfl ⟨_,_,rfl,rfl,k⟩⟩)))
   (λE _ k=>pY (zf2 (vp (s u l) hr (zi 3 rfl ⟨_,rfl,rfl,zk (zi 2 rfl (zA ⟨_,_,_,_,rfl,_,rfl,k⟩))⟩)))) ?_))
  refine zv (λh=>?_) (λh=>?_)
  .refine yH (pC (o u l).1 (o u l).2 (zi 3 rfl ⟨_,_,rfl,rfl,?_⟩));have e1:ds.reverse.find? (zk6 x day)=some (.tuple [.str u,.int a,.int b,v]):=rK hno he h;unfold zl at q;rw[e1]at q;exact q
  .refine zM (zM ⟨⟨_,rfl⟩,λj p d' g=>?_⟩);rcases yc2 j i with z|z
   .exact hno j z d' g
   .have:j=i:=by lia
    subst this;rw[he]at g;cases g;exact h
 .rintro L ⟨⟨n,rfl⟩,hno⟩;refine yH (oY r (hr.mono (by decide)) (by rfl) (zk (zi 1 rfl (zA ⟨x,rfl,B,?_⟩))));have e1:ds.reverse.find? (zk6 x day)=none:=zi7 λj d hd=>hno j (by
   have:=(zZ6.mp hd).1;rw[z63,zZ2]
   rwa [z63]at this) d hd
  unfold zl at q;rw[e1]at q;exact q
end
structure vT (d:Aa):Prop where
 rule:xV d=true
 nice:zS 20011 d
 dep:d.depth<=2
 wn:zS 5000 (jE d)
def zw (ds:List Aa):Prop:=∀d∈ds,vT d
def qQ {s:Str}(h:s∈words):zS 2000 (.str s):=by
 simp only[words,zZ9,z31,z57]at h;rcases h with rfl|rfl|rfl|rfl|rfl|rfl|rfl<;>exact⟨rfl,rfl,z21 _,by decide +kernel,by decide +kernel⟩
def vT.of {s:Str}{i j:Int}{d:Aa}(e:s∈words)(g:0<=i)(f:i<=j)(h:j<=1000000)(hw:zX (.str s) d=true)(hn:zS 5000 d)(hd:d.depth<=1):vT (.tuple [.str s,.int i,.int j,d]):=by
 have b:(1000001:Int)<big:=by decide
 have c:-big<(0:Int):=by decide
 have na:ye 5000 [.str s,.int i,.int j,d]:=by
  constructor
  .intro x a;simp only[zZ9,z31,z57]at a;rcases a with rfl|rfl|rfl|rfl
   .exact(qQ e).mono (by decide)
   .exact(zS.int (by lia) (by lia)).mono (by decide)
   .exact(zS.int (by lia) (by lia)).mono (by decide)
   .exact hn
  .intro x a;simp only[zZ9,z31,z57]at a;rcases a with rfl|rfl|rfl|rfl
   .exact z21 _
   .exact z21 _
   .exact z21 _
   .lia
 refine⟨?_,zS.tuple na (by show 4*(5000+2)+3<=20011;decide),?_,hn⟩
 .show(vb (.tuple [.int i,.int j])&&zX (.str s) d)=true;rw[hw,Bool.and_true];unfold vb zJ9;have h1:(eQ (.int i)&&eQ (.int j))=true:=by
   show((decide (0<=i)&&decide (i<=1000000))&&(decide (0<=j)&&decide (j<=1000000)))=true;simp only[z36,z55]
   lia
  simp only[h1,yc1,z55]
  lia
 .simp only[PyData.depth,PyData.depthAll]
  lia
def zw.rules {ds:List Aa}(h:zw ds):Rules ds:=λd hd=>⟨(h d hd).rule,(h d hd).nice.shaped,(h d hd).nice.nod⟩
def iX {ds:List Aa}{lo hi:Option Int}{d:Aa}(h:d∈L2.cutD ds lo hi):d∈ds:=by
 unfold L2.cutD at h;exact yj4 (z91 h)
def ua {ds:List Aa}{lo hi:Option Int}:(L2.cutD ds lo hi).length<=ds.length:=by
 unfold L2.cutD;rw[z49,z88]
 lia
abbrev jK :An:=top 69
abbrev jt :An:=top 70
abbrev jz :An:=top 71
abbrev iV :An:=top 72
abbrev jX :An:=top 73
def within_int {lo hi i:Int}(h1:lo<=i)(h2:i<=hi):yY lo hi (.int i)=true:=by
 show(decide (lo<=i)&&decide (i<=hi))=true;rw[z39 h1,z39 h2];rfl
def uf {i:Int}(h0:-2000000000000<=i)(h1:i<=2000000000000):zS 2000 (.int i):=zS.int (by unfold big;lia) (by unfold big;lia)
def zw.nil :zw []:=λx a=>by simp at a
def zw.app {ds a:List Aa}(h:zw ds)(h':zw a):zw (ds++a):=λd hd=>(z44.mp hd).elim (h d) (h' d)
def zw.snoc {ds:List Aa}{d:Aa}(h:zw ds)(hd:vT d):zw (ds++[d]):=h.app λx a=>by rw[z06.mp a];exact hd
def Bd (bs a:Int):Prop:=0<=bs/\bs<=999980/\1<=a/\a<=14
def pI :Ph:=λas Q=>as=[.tape]/\∀z:Int,0<=z->z<=1000000000000->Q (.dat (.int z))
def nC :Ph:=λas Q=>∃a,as=[.tape,.dat (.str a)]/\a∈words/\∀d,zX (.str a) d=true->zS 5000 d->d.depth<=1->Q (.dat d)
def mP :Ph:=λas Q=>∃bs a:Int,as=[.tape,.dat (.int bs),.dat (.int a)]/\Bd bs a/\∀ds,zw ds->1<=ds.length+1->ds.length<=5->Q (.own ds)
def mW :Ph:=λas Q=>∃bs a:Int,as=[.tape,.dat (.int bs),.dat (.int a)]/\Bd bs a/\∀ds,zw ds->1<=ds.length->ds.length<=5->Q (.own ds)
def ng :Ph:=λas Q=>∃bs a:Int,as=[.tape,.dat (.int bs),.dat (.int a)]/\Bd bs a/\∀ds,zw ds->1<=ds.length->ds.length<=10->Q (.dat (.list ds))
section
variable {P:Ag}{w:Ai}{K:Ac}{mg:Str->Option Ab}{base:Ao}
def gD (F:FnD K mg "_law_coins" jK ["_law_tape_here"])(a:Cal P w K mg base "_law_draw" 1 yL):Cal P w K mg base "_law_coins" 2 pI:=by
 refine zN ["_law_tape_here"] F λ_ _ _ _ _ _ _ _ Q nd hr h=>?_;obtain⟨rfl,q⟩:=h;and_intros;refine xK rfl (by assumption) (by assumption) ?_
 repeat refine⟨q _ (by lia) (by lia),?_⟩
 trivial
def eX (F:FnD K mg "_law_worth" jt ["_law_tape_here","_law_word"])(t:Cal P w K mg base "_law_draw" 1 yL)(u:Cal P w K mg base "_law_coins" 2 pI):Cal P w K mg base "_law_worth" 3 nC:=by
 refine zN ["_law_tape_here","_law_word","_law_many"] F λ_ _ _ _ _ _ _ _ Q nd hr h=>?_;obtain⟨i,rfl,hw,q⟩:=h;have g:∀z:Int,0<=z->z<=1000000000000->zX (.str i) (.int z)=true->Q (.dat (.int z)):=λz a b h=>q _ h ((uf (by lia) (by lia)).mono (by decide)) (z21 _);have l:zX (.str i) .none=true->Q (.dat .none):=λh=>q _ h (zS.none.mono (by decide)) (z21 _);have k:∀b,zX (.str i) (.bool b)=true->Q (.dat (.bool b)):=λb h=>q _ h ((zS.bool _).mono (by decide)) (z21 _);have s:∀m f:Int,i="deal"->2<=m->m<=14->1<=f->f<m->Q (.dat (.tuple [.int m,.int f])):=λm f e a b c d=>by
  subst e;exact q _ (ya4.mpr ⟨within_int a b,within_int c (by lia)⟩) (zS.tuple (n:=2000) (ye.two (uf (by lia) (by lia)) (uf (by lia) (by lia)) (z21 _) (z21 _)) (by show 2*(2000+2)+3<=5000;decide)) (zZ8 _)
 simp only[words,zZ9,z31,z57]at hw;rcases hw with rfl|rfl|rfl|rfl|rfl|rfl|rfl<;>and_intros
 .refine⟨rfl,λr a1 o=>?_⟩;and_intros;refine⟨rfl,λp a2 j=>?_⟩;and_intros;exact xK rfl (by assumption) (by assumption) ⟨l rfl,g r a1 o (within_int a1 o),g p a2 j (within_int a2 j),trivial⟩
 .exact k _ rfl
 .exact k _ rfl
 .exact g _ (by lia) (by lia) (within_int (by lia) (by lia))
 .exact g _ (by lia) (by lia) (within_int (by lia) (by lia))
 .refine xK rfl (by assumption) (by assumption) ⟨l rfl,?_⟩
  repeat refine⟨s _ _ rfl (by lia) (by lia) (by lia) (by lia),?_⟩
  trivial
 .refine⟨rfl,λz a b=>?_⟩;exact g z a b (within_int a b)
def lJ (F:FnD K mg "_law_price_rules" jz ["_law_tape_here","_law_base","_law_days"])(nb:NbT mg)(B:Cal P w K mg base "_law_draw" 1 yL)(v:Cal P w K mg base "_law_coins" 2 pI):Cal P w K mg base "_law_price_rules" 3 mW:=by
 refine zN ["_law_tape_here","_law_base","_law_days","_law_found","_law_k","_law_first","_law_worth_here"] F λ_ _ _ _ _ _ _ _ Q nd hr h=>?_;obtain⟨bs,s,rfl,⟨C,t,D,z⟩,q⟩:=h;have e:∀{c:Int},0<=c->c<=1000000000000->zX (.str "price") (.int c)=true/\zS 5000 (.int c)/\(PyData.int c).depth<=1:=λa b=>⟨within_int a b,(uf (by lia) (by lia)).mono (by decide),z21 _⟩;refine xu 3 nd ?_;and_intros;refine⟨rfl,λA p1 f=>?_⟩;and_intros;refine zQ (.one 4) (xx (by rfl) nb.range ?_);and_intros;refine⟨by lia,by lia,?_⟩;refine zB (λi L=>∃v4 j v6 ds,L=[some .tape,some (.dat (.int bs)),some (.dat (.int s)),some (.own ds),v4,j,v6]/\zw ds/\1<=ds.length/\ds.length<=1+i) ⟨none,none,none,_,rfl,zw.nil.snoc (vT.of (by simp[words]) (by lia) (by lia) (by lia) (e p1 f).1 (e p1 f).2.1 (e p1 f).2.2),zZ8 _,zZ8 _⟩ ?_ ?_
 .rintro i d L hd ⟨v4,j,v6,ds,rfl,g,l1,ld⟩;have hi:=(zZ6.mp hd).1;rw[zZ2,zb]at hi;refine⟨_,rfl,?_⟩;and_intros;refine⟨rfl,λx p5 n=>?_⟩;and_intros;refine⟨rfl,λy p6 m=>?_⟩;and_intros;refine⟨rfl,λE k r=>?_⟩;and_intros;refine wH (λd=>zX (.str "price") d=true/\zS 5000 d/\d.depth<=1) rfl (by assumption) (by assumption) ⟨⟨rfl,zS.none.mono (by decide),z21 _⟩,e p5 n,e p6 m,e k r,trivial⟩ ?_;rintro u ⟨o,p,l⟩;and_intros;refine⟨by lia,?_⟩;and_intros;exact⟨_,_,_,_,rfl,g.snoc (vT.of (by simp[words]) (by lia) (by lia) (by lia) o p l),by simp,by simp;lia⟩
 .rintro L ⟨v4,j,v6,ds,rfl,g,l1,ld⟩;rw[zZ2,zb]at ld;exact xr 3 rfl (q ds g l1 (by lia))
def kF (F:FnD K mg "_law_other_rules" iV ["_law_tape_here","_law_base","_law_days"])(nb:NbT mg)(n:Cal P w K mg base "_law_draw" 1 yL)(k:Cal P w K mg base "_law_worth" 3 nC):Cal P w K mg base "_law_other_rules" 4 mP:=by
 refine zN ["_law_tape_here","_law_base","_law_days","_law_found","_law_k","_law_word","_law_first"] F λ_ _ _ _ _ _ _ _ Q nd hr h=>?_;obtain⟨bs,g,rfl,⟨o,j,p,l⟩,q⟩:=h;and_intros;refine zQ (.one 4) (xx (by rfl) nb.range ?_);and_intros;refine⟨by lia,by lia,?_⟩;refine zB (λi L=>∃v4 b v6 ds,L=[some .tape,some (.dat (.int bs)),some (.dat (.int g)),some (.own ds),v4,b,v6]/\zw ds/\ds.length<=i) ⟨none,none,none,_,rfl,zw.nil,zZ8 _⟩ ?_ ?_
 .rintro i d L hd ⟨v4,b,v6,ds,rfl,a,ld⟩;have hi:=(zZ6.mp hd).1;rw[zZ2,zb]at hi;refine⟨_,rfl,?_⟩;and_intros;refine wH (λd=>∃x,d=.str x/\x∈words) rfl (by assumption) (by assumption) ?_ ?_
  .repeat refine⟨⟨_,rfl,by simp[words]⟩,?_⟩
   trivial
  rintro _ ⟨r,rfl,hw⟩;and_intros;refine⟨hw,λm e f c=>?_⟩;and_intros;refine⟨by lia,?_⟩;and_intros;exact⟨_,_,_,_,rfl,a.snoc (vT.of hw (by lia) (by lia) (by lia) e f c),by simp;lia⟩
 .rintro L ⟨v4,b,v6,ds,rfl,a,ld⟩;rw[zZ2,zb]at ld;exact xr 3 rfl (q ds a (by lia) (by lia))
def kn (F:FnD K mg "_law_rules" jX ["_law_tape_here","_law_base","_law_days"])(i:Cal P w K mg base "_law_draw" 1 yL)(g:Cal P w K mg base "_law_price_rules" 3 mW)(k:Cal P w K mg base "_law_other_rules" 4 mP):Cal P w K mg base "_law_rules" 5 ng:=by
 refine zN ["_law_tape_here","_law_base","_law_days","_law_ones","_law_others"] F λ_ _ _ _ _ _ _ _ Q nd hr h=>?_;obtain⟨bs,j,rfl,bd,q⟩:=h;refine yf 3 nd ?_;and_intros;refine⟨_,_,rfl,bd,λe b f l1=>yf 4 nd ?_⟩;and_intros;refine⟨_,_,rfl,bd,λc a _ l2=>?_⟩;refine yH (wC hr.one (λ_ _=>rfl) (EvL.d (yK (zk (EvL.d (wU (zi 3 rfl (zi 4 rfl ⟨_,_,rfl,rfl,by lia,zk (EvL.d (wU (zi 4 rfl (zi 3 rfl ⟨_,_,rfl,rfl,by lia,?_⟩))))⟩))))))));and_intros;exact xK rfl (by assumption) (by assumption) ⟨q _ (b.app a) (by simp;lia) (by simp;lia),q _ (a.app b) (by simp;lia) (by simp;lia),trivial⟩
end
abbrev hU :An:=top 9
def sU :Ph:=λas Q=>∃c g:Int,as=[.dat (.tuple [.int c,.int g])]/\-100<=c/\c<g/\g<=c+500/\c<=1000100/\Q (.own ((zo c (g-c).toNat).map .int))
section
variable {P:Ag}{w:Ai}{K:Ac}{mg:Str->Option Ab}{base:Ao}{cs:Cs}
def kq (F:FnD K mg "nights_of" hU ["stay"])(nb:NbT mg):Cal P w K mg base "nights_of" 1 sU:=by
 refine zN ["stay"] F λ_ _ _ _ _ _ _ _ Q nd hr h=>?_;obtain⟨c,g,rfl,h1,h2,h3,a,q⟩:=h;exact tU (zc2 rfl (by rfl) nb.list (by rfl) nb.range (xS (λ_ _=>rfl) (zi 0 rfl (yz (⟨_,_,_,rfl,rfl,rfl,xS (λ_ _=>rfl) (zi 0 rfl (yz (⟨_,_,_,rfl,rfl,rfl,⟨_,_,rfl,rfl,⟨by lia,by lia,by lia,by lia⟩,by lia,q⟩⟩)))⟩)))))
end
abbrev yF :An:=top 17
noncomputable def qA :Arguments×Aq:=match zt yF with
 |[.Return (some (.Call _ _ [⟨_,.Lambda ps _ sc _,_⟩] _)) _]=>(ps,sc)
 |_=>(zT yF,zh yF)
section
variable {P:Ag}{w:Ai}{K:Ac}{mg:Str->Option Ab}{base:Ao}
def zk4 :ya ["prices","places"] ["prices","places"] (zh yF):=.o
def zM9 :xU "place" "prices" qA.1 qA.2:=⟨rfl,rfl,rfl,rfl,rfl,by decide +kernel,by decide +kernel,by decide⟩
def zJ4 {f c:Ae}{b:Am}{outer:List Ar}{s:Ad}{H:Hp}{E:XK}{n1:Nat}{p1 p2 p3 p4 p5 p6:Pos}(hhd:PySem.W.codeHdIn K c yx=true)(a:K.In base)(hbi:base.BuiltinsAt mg yx):
  aq (vv CX0 P w K mg base ["prices","places"] "cheapest_first" (zh yF) f (.ref c) b outer s H E).nox c "place" "prices" n1 p1 p2 p3 p4 p5 p6 qA.1 qA.2 where
 S:=zM9
 hy:=rfl
 hcl:=λcl h=>by
  have e:qA.2.names=[(("prices":Str),NameKind.free),(("place":Str),NameKind.local)]\/qA.2.names=[(("place":Str),NameKind.local),(("prices":Str),NameKind.free)]:=by decide +kernel
  unfold closureFor;rcases e with e|e<;>rw[e]<;>simp[cellOf,h]
 hgl:=rfl
 hco:=rfl
 hhd:=PySem.W.codeHd_of_K a hhd
 hbi:=hbi
 hdf:=rfl
 hq:=rfl
 hne:=by decide
 hb:=λu cl c' pm ctv=>rfl
 hdx:=by decide
 hdy:=by decide
 hcx:=by decide
 hcy:=by decide
def pV :Ph:=λas Q=>∃ns zs:List Int,as=[.dat (.list (zs.map .int)),.dat (.list (ns.map .int))]/\ns.length<64/\(∀n∈ns,0<=n/\n<zs.length)/\∀ms,tN ns zs ms->Q (.own (ms.map .int))
def eE {f c:Ae}{oc:Ab}{od an:Option Ae}{osl:Array (Option Ab)}{kV doc pm ct:Ab}(i:K.lookup f=some ⟨oc,od,.func (PySem.W.fnOf "cheapest_first" "cheapest_first" (zT yF) (zt yF) (zh yF) .none kV doc pm an (.ref c) ct),osl⟩)(b:PySem.W.codeIn K (.ref c) "cheapest_first"=true)(kp:PySem.W.keepIn K (.ref f)=true)
  (hm:mg "cheapest_first"=some (.ref f)) (hb:Binds K (PySem.W.fnOf "cheapest_first" "cheapest_first" (zT yF) (zt yF) (zh yF) .none kV doc pm an (.ref c) ct) ["prices","places"] []) (nb:NbT mg) (hhd:PySem.W.codeHdIn K c yx=true) (e:K.In base) (hbi:base.BuiltinsAt mg yx):Cal P w K mg base "cheapest_first" 3 pV:=by
 refine⟨f,_,_,hm,kp,hb,zU6 i b zk4 (λas Q h=>by obtain⟨ns,zs,rfl,_⟩:=h;rfl) λl outer s H E as Q hr h=>?_⟩;obtain⟨ns,zs,rfl,d,a,q⟩:=h;exact tU (kP (j:=0) (k:=0) (zJ4 hhd e hbi) hr (by rfl) nb.sorted rfl (zi 1 rfl ⟨ns,zs,rfl,rfl,d,a,λms g=>q ms g⟩))
end
abbrev ug :An:=top 18
noncomputable def zK3 :Aq:=match zt ug with
 |.Assign _ (.ListComp _ _ sc _) _::_=>sc
 |_=>zh ug
def rp :Ph:=λas Q=>∃(zs:List Int) (d:Aa),as=[.dat (.list (zs.map .int)),.dat d]/\zs.length<=500/\
 ((d=.none/\Q (.own ((List.replicate zs.length false).map .bool)))\/∃many free:Nat,d=.tuple [.int many,.int free]/\0<many/\many<64/\∀bs,tI zs many free zs.length bs->Q (.own (bs.map .bool)))
theorem gg (ns:List Int):wY (ns.map .int)=true:=by
 induction ns with
 |nil=>rfl
 |cons n ns a=>rw[z27,wY,a];rfl
section
variable {P:Ag}{w:Ai}{K:Ac}{mg:Str->Option Ab}{base:Ao}
def zL9 :zP ["prices","deal","marks","bundle","place","rank","other"] (zh ug) ["price"] [none] zK3:=⟨rfl,by decide +kernel,by decide +kernel,by decide +kernel,by decide +kernel,rfl,by decide +kernel⟩
def kX (F:FnD K mg "marked" ug ["prices","deal"])(nb:NbT mg)(R:Cal P w K mg base "cheapest_first" 3 pV):Cal P w K mg base "marked" 4 rp:=by
 refine zN ["prices","deal","marks","bundle","place","rank","other"] F λ_ _ T _ _ _ _ _ Q nd hr h=>?_;obtain⟨zs,d,rfl,hlen,h⟩:=h;refine cM 2 (pat:=.one 0) nd rfl zL9 rfl (λ_ _ _ _=>yj (i:=0) zL9.nd rfl (Or.inl rfl)) (zW (zi 0 rfl ⟨_,rfl,?_,?comp⟩))
 .rw[zZ2];lia
 refine vU (λ_=>true) (λ_=>.bool false) (λd hd=>⟨_,rfl,λ_ _ _ _ _ k=>dn k,λ_ _ _ _ _ _ k=>iI k⟩) ?_;have J:([]:List Aa)++List.map (λ_=>PyData.bool false) (List.filter (λ_=>true) (List.map PyData.int zs))=(List.replicate zs.length false).map .bool:=by
  rw[z51,df,z53,List.map_replicate];exact List.eq_replicate_iff.mpr ⟨by simp,by simp⟩
 rw[J];rcases h with⟨rfl,q⟩|⟨many,free,rfl,g,u,q⟩
 .refine ue (vP (zi 1 rfl ?_));exact xr 2 rfl q
 refine ue (vP (zi 1 rfl (zM ?_)));refine xu 3 nd (yK (zA ⟨_,rfl,z21 _,?_⟩));refine oQ (pat:=.one 4) yc7 rfl (yj (i:=4) nd rfl (Or.inl rfl)) (xx (by rfl) nb.range (oX (by rfl) nb.len (zi 0 rfl ⟨_,rfl,⟨_,rfl,by lia,by rw[zZ2];lia,?_⟩⟩)));refine zB (λi L=>∃(bs:List Bool) (D o m:Option A),tI zs many free i bs/\L=[some (.dat (.list (zs.map .int))),some (.dat (.tuple [.int many,.int free])),some (.own (bs.map .bool)),some (.own ((zo ((i / many*many:Nat):Int) (i % many)).map .int)),D,o,m]) ?_ ?_ ?_
 .refine⟨_,none,none,none,fq zs free,?_⟩;rw[Nat.zero_mod,Nat.zero_div];rfl
 .rintro i d L hd ⟨bs,D,o,m,mk,rfl⟩;have hi:i<zs.length:=by
   have:=(zZ6.mp hd).1;simpa[zb]using this
  obtain rfl:d=.int (i:Int):=by
   rw[z04,zE (by simpa using hi)]at hd;simpa using hd.symm
  refine⟨_,rfl,?_⟩;have H:=Nat.mod_lt i g;refine uV 3 rfl (zi 4 rfl ⟨by rw[zZ2,zb];lia,?_⟩);have I:List.map PyData.int (zo ((i / many*many:Nat):Int) (i % many))++[PyData.int (i:Int)]=(zo ((i / many*many:Nat):Int) (i % many+1)).map .int:=by
   have e:=yf1 i many;have N:i / many*many=many*(i / many):=Nat.mul_comm _ _;rw[mV,z54]
   congr 1
   simp only[z27,yd2]
   congr 2
   lia
  rw[I];refine ue (jJ 3 rfl (zG0 (oX (by rfl) nb.len (zi 3 rfl ⟨_,rfl,xS (λ_ _=>rfl) (zi 1 rfl (yz ⟨_,_,_,rfl,rfl,at0,_,_,rfl,rfl,?_⟩))⟩))));refine zD2 (λy=>?_) (λy=>zM ?_)
  .have c:i % many+1=many:=by
    rw[zZ2,zb]at y
    lia
   rw[c];have t:∀n∈zo ((i / many*many:Nat):Int) many,0<=n/\n<zs.length:=λn hn=>by
    rw[yC]at hn;have e:=yf1 i many;have N:i / many*many=many*(i / many):=Nat.mul_comm _ _
    lia
   refine oQ (pat:=.many [5,6]) yc7 rfl (uc (n:=2) (K:=K) rfl rfl (vj (yj (i:=5) nd rfl (Or.inl rfl)) (vj (yj (i:=6) nd rfl (Or.inl rfl)) (su))))
    (pR (by rfl) nb.enumerate (EvL.d (ip 3 rfl (wX R hr (by rfl) (zk (zi 0 rfl (zk (zi 3 rfl (zA ⟨_,zs,rfl,by rw[zb];exact u,t,λms p=>⟨_,rfl,gg ms,_,rfl,?_⟩⟩)))))))))
   have B:ms.length=many:=by rw[p.1.length_eq,zb]
   refine zB (λr L=>∃(a:List Bool) (p5 p6:Option A),(a.length=bs.length/\(∀q,q<r->a.getD (ms.getD q 0).toNat false=decide (q<free))/\∀j,(∀q,q<r->(ms.getD q 0).toNat≠j)->a.getD j false=bs.getD j false)/\
    L=[some (.dat (.list (zs.map .int))),some (.dat (.tuple [.int many,.int free])),some (.own (a.map .bool)),some (.own ((zo ((i / many*many:Nat):Int) many).map .int)),some (.dat (.int i)),p5,p6]) ?_ ?_ ?_
   .exact⟨bs,o,m,⟨rfl,λq h=>absurd h (Nat.not_lt_zero _),λ_ _=>rfl⟩,rfl⟩
   .rintro r d L hd ⟨a,p5,p6,⟨f0,f1,f2⟩,rfl⟩;obtain⟨e,he,rfl⟩:=wa hd;have f:r<ms.length:=by
     have:=(zZ6.mp he).1;simpa using this
    obtain rfl:e=.int (ms.getD r 0):=by
     rw[z04,zZ5 f]at he;rw[z00,zZ5 f];simpa using he.symm
    refine⟨_,rfl,?_⟩;have s:=vZ p (q:=r) (by lia);have C:=t (ms.getD r 0) (yC.mpr s);obtain⟨j,v⟩:=z66 C.1;rw[v];have O:j<a.length:=by rw[f0,mk.1];lia
    refine pQ 2 rfl (zz2 (zi 5 rfl (xS (λ_ _=>rfl) (zi 1 rfl (yz ⟨_,_,_,rfl,rfl,yn (j:=1) rfl,_,_,rfl,rfl,zi 6 rfl ⟨_,j,rfl,?_,zM ?_⟩⟩)))))
    .unfold ixN;rw[if_pos (by lia),if_pos (by rw[zZ2];lia)];simp
    .refine⟨a.set j (decide (r<free)),some (.dat (.int ((0+r:Nat):Int))),some (.dat (.int (j:Int))),⟨?_,λq hq=>?_,λl E=>?_⟩,?_⟩
     .rw[z62,f0]
     .by_cases x:q=r
      .subst x;rw[v,z67,z00,ya9 O];rfl
      .have hne:(ms.getD q 0).toNat≠j:=λz=>by
        have nd:ms.Nodup:=p.1.nodup_iff.mpr (pf _ _);have a1:=(vZ p (q:=q) (by lia)).1;have G:ms.getD q 0=ms.getD r 0:=by rw[v];lia
        rw[z00,z00,zZ5 (by lia),zZ5 f]at G;exact(ya0.mp nd q r (by lia) f (by lia)) G
       rw[z00,z68 hne.symm,<-z00,f1 q (by lia)]
     .have hne:j≠l:=λz=>E r (z64 _) (by rw[v];lia);rw[z00,z68 hne,<-z00,f2 l λq hq=>E q (by lia)]
     .have M:decide (((0+r:Nat):Int)<(free:Int))=decide (r<free):=by rw[decide_eq_decide];lia
      rw[M,List.map_set];rfl
   .rintro L ⟨a,p5,p6,⟨f0,f1,f2⟩,rfl⟩;refine xu 3 nd (yK (zA ⟨_,rfl,z21 _,zM ?_⟩));rw[xX,zZ2,B]at f1 f2;refine zM ?_;refine⟨a,some (.dat (.int i)),p5,p6,ef g c mk p f0 f1 f2,?_⟩;rw[(mD g c).2.1];rfl
  .have b:i % many+1<many:=by
    rw[zZ2,zb]at y
    lia
   refine zM ?_;refine⟨bs,some (.dat (.int i)),o,m,fw g b mk,?_⟩;rw[(rX g b).1,(rX g b).2];rfl
 .rintro L ⟨bs,D,o,m,mk,rfl⟩;have S:(List.map PyData.int (zo 0 ((List.map PyData.int zs).length:Int).toNat)).length=zs.length:=by simp[zb]
  rw[S]at mk;exact xr 2 rfl (q bs mk)
end
abbrev sNP :An:=top 19
abbrev sF :An:=top 20
noncomputable def zg8 :Aq:=match (zt sF).getD 5 (.Pass ⟨0,0,0,0⟩)with
 |.Assign _ (.Call _ [.ListComp _ _ sc _] _ _) _=>sc
 |_=>zh sF
def zM5 (C:Ae)(cs:Cs):Ph:=λas Q=>∃(ds:List Aa) (ns:List Int) (pr:Int->Int),as=[.dat (xo C cs ds),.dat (.list (ns.map .int))]/\Rules ds/\ns.length<=900/\(∀z∈ns,zl ds "price" z=.int (pr z))/\Q (.own ((ns.map pr).map .int))
def aW (C:Ae)(cs:Cs):Ph:=λas Q=>∃(ds:List Aa) (c g fee:Int) (pr:Int->Int),as=[.dat (xo C cs ds),.dat (.tuple [.int c,.int g])]/\Rules ds/\0<=c/\c<g/\g<=c+400/\c<=1000000/\(∀z,c<=z->z<g->zl ds "price" z=.int (pr z)/\0<=pr z/\pr z<=1000000000000)/\
 (zl ds "deal" c=.none\/∃many free:Nat,zl ds "deal" c=.tuple [.int many,.int free]/\0<many/\many<64)/\zl ds "fee" c=.int fee/\
 ∀bs,wI (zl ds "deal" c) ((zo c (g-c).toNat).map pr) bs->Q (.dat (.tuple [.int ((yQ ((zo c (g-c).toNat).map pr) bs).sum+fee),.list (wj ((zo c (g-c).toNat).map .int) (((zo c (g-c).toNat).map pr).map .int) (bs.map .bool)),.int fee]))
section
variable {P:Ag}{w:Ai}{K:Ac}{mg:Str->Option Ab}{base:Ao}{cs:Cs}
def zA9 {C:Ae}(F:FnD K mg "night_prices" sNP ["book","nights"])(j:uv P w K mg base C "tells_of" 2 (tQ C cs)):Cal P w K mg base "night_prices" 3 (zM5 C cs):=by
 refine zN ["book","nights","prices","night","price"] F λ_ _ l _ _ _ _ _ Q nd hr h=>?_;obtain⟨ds,ns,pr,rfl,g,k,f,q⟩:=h;refine xu 2 nd (yK (zA ⟨_,rfl,z21 _,?_⟩));refine oQ (pat:=.one 3) yc7 rfl (yj (i:=3) nd rfl (Or.inl rfl)) (zW (zi 1 rfl ⟨_,rfl,?_⟩));refine zB (λi L=>∃b a:Option A,L=[some (.dat (xo C cs ds)),some (.dat (.list (ns.map .int))),some (.own (((ns.take i).map pr).map .int)),b,a]) ⟨none,none,rfl⟩ ?_ ?_
 .rintro i d L hd ⟨b,a,rfl⟩;rw[z04,z22]at hd;obtain⟨z,c,rfl⟩:=hd;have hi:i<ns.length:=(zZ6.mp c).1;have e:=f z (z47 c);refine⟨_,rfl,?_⟩;refine yf 4 nd (vp j hr (zi 0 rfl ⟨_,rfl,rfl,zk (xA (zk (zi 3 rfl (zA ⟨ds,_,_,rfl,g,by simp[words],?_⟩))))⟩));show SvS _ (List.set _ _ (some (.dat (zl ds "price" z)))) _ _;rw[e];refine ue (vP (zi 4 rfl ?_));refine zv (λh=>by cases h) (λ_=>zM ?_);refine uV 2 rfl (zi 4 rfl ⟨by rw[zZ2,zZ2,z49];lia,zM ⟨some (.dat (.int z)),some (.dat (.int (pr z))),?_⟩⟩);rw[z75,c,z54,z54];rfl
 .rintro L ⟨b,a,rfl⟩;rw[zZ2,z80];exact xr 2 rfl q
def zK8 :zP ["book","stay","nights","prices","marks","fee","rows","paid"] (zh sF) ["row"] [none] zg8:=⟨rfl,by decide +kernel,by decide +kernel,by decide +kernel,by decide +kernel,rfl,by decide +kernel⟩
def zd0 {C:Ae}(F:FnD K mg "bill" sF ["book","stay"])(nb:NbT mg)(u:uv P w K mg base C "tells_of" 2 (tQ C cs))(B:Cal P w K mg base "nights_of" 1 sU)(I:Cal P w K mg base "night_prices" 3 (zM5 C cs))(M:Cal P w K mg base "marked" 4 rp):
  Cal P w K mg base "bill" 5 (aW C cs):=by
 refine zN ["book","stay","nights","prices","marks","fee","rows","paid"] F λf cdv G outer s H E _ Q nd hr h=>?_;obtain⟨ds,c,g,fee,pr,rfl,t,N,L,gl,R,l,a,m,q⟩:=h;generalize hn:(g-c).toNat=n at q;have D:0<n:=by lia
 have A:n<=400:=by lia
 refine yf 2 nd (EvL.d (wX B (hr.mono (by decide)) (by rfl) (zk (zi 1 rfl (zA ⟨c,g,rfl,by lia,L,by lia,by lia,_,rfl,?_⟩)))));rw[hn];refine yf 3 nd (EvL.d (wX I (hr.mono (by decide)) (by rfl) (zk (zi 0 rfl (zk (zi 2 rfl (zA ⟨ds,zo c n,pr,rfl,t,by rw[zb];lia,λz e=>(l z (yC.mp e).1 (by have:=(yC.mp e).2;lia)).1,_,rfl,?_⟩)))))));have o:((zo c n).map pr).length=n:=by rw[zZ2,zb]
 refine yf 4 nd (EvL.d (wX M hr (by rfl) (zk (zi 3 rfl (zk (vp u (hr.mono (by decide)) (zi 0 rfl ⟨_,rfl,rfl,zk (xA (zk (xS (λ_ _=>rfl) (zi 1 rfl (yz ⟨_,_,_,rfl,rfl,at0,zA ⟨ds,_,_,rfl,t,by simp[words],zA ⟨_,_,rfl,by lia,?_⟩⟩⟩)))))⟩)))))));have key:∀bs,wI (zl ds "deal" c) ((zo c n).map pr) bs->SvS (vv CX0 P w K mg base ["book","stay","nights","prices","marks","fee","rows","paid"] "bill" (zh sF) f cdv G outer s H E).nox
   [some (.dat (xo C cs ds)),some (.dat (.tuple [.int c,.int g])),some (.dat (.list ((zo c n).map .int))),some (.dat (.list (((zo c n).map pr).map .int))),some (.dat (.list (bs.map .bool))),none,none,none] ((zt sF).drop 3) {nx:=λ_=>Q (.dat .none),rt:=Q}:=by
  intro bs mk;have p:=mk.len;refine yf 5 nd (vp u (hr.mono (by decide)) (zi 0 rfl ⟨_,rfl,rfl,zk (xA (zk (xS (λ_ _=>rfl) (zi 1 rfl (yz ⟨_,_,_,rfl,rfl,at0,zA ⟨ds,_,_,rfl,t,by simp[words],?_⟩⟩)))))⟩));show SvS _ (List.set _ _ (some (.dat (zl ds "fee" c)))) _ _;rw[m];refine yf 6 nd (EvL.d (nN rfl (by rfl) nb.list (by rfl) nb.zip (zk (zi 2 rfl (zk (zi 3 rfl (zk (zi 4 rfl (zA ⟨_,_,_,rfl,?_,?_,?_,?_,?_⟩)))))))))
  .rw[zZ2,zZ2,zZ2]
  .rw[zZ2,zZ2,p,o,zb]
  .rw[zZ2,zb];lia
  .rw[zZ2,zb];lia
  have pm:∀z∈yQ ((zo c n).map pr) bs,0<=z/\z<=1000000000000:=λz e=>by
   obtain⟨y,hy,rfl⟩:=z33.mp (vm e);have hy:=yC.mp hy;exact(l y hy.1 (by lia)).2
  refine yf 7 nd (og rfl (by rfl) nb.sum (EvL.d (zA1 (pat:=.one 0) rfl zK8 rfl (λ_ _ _ _=>yj (i:=0) zK8.nd rfl (Or.inl rfl)) (zW (zi 6 rfl ⟨_,rfl,?_,?comp⟩)))))
  .rw[uR (by rw[zZ2,zZ2,zZ2]) (by rw[zZ2,zZ2,p,o,zb]),zZ2,zb];lia
  refine vU (λd=>!tT d) (zA5 1) (λd hd=>?_) ?_
  .obtain⟨j,J⟩:=List.mem_iff_getElem?.mp hd;obtain⟨x,y,z,e1,O,v,rfl⟩:=uL J;rw[z04,z22]at v;obtain⟨b,_,rfl⟩:=v;exact⟨_,rfl,λ_ _ _ _ _ k=>kE (oR (zf2 (xS (λ_ _=>rfl) (zi 0 rfl (yz ⟨_,_,_,rfl,rfl,yn (j:=2) rfl,⟨_,rfl,k⟩⟩))))),λ_ _ _ _ _ _ k=>xS (λ_ _=>rfl) (zi 0 rfl (yz ⟨_,_,_,rfl,rfl,yn (j:=1) rfl,k⟩))⟩
  .rw[z51,sO (by rw[o,zZ2,zb]) (by rw[p,o,zZ2,zb])];refine⟨_,rfl,λz e=>by have:=pm z e;lia,kd pm (z05 (uK _ _) (by lia)),?_⟩;exact yH (oK (zk (vL (zi 7 rfl (zi 5 rfl ⟨_,_,rfl,rfl,zk (zi 6 rfl (zk (zi 5 rfl (zA ⟨_,rfl,z25 rfl,q bs mk⟩))))⟩)))))
 rcases a with hd|⟨many,free,hd,m0,r⟩
 .exact .inl ⟨hd,⟨_,rfl,key _ (.inl ⟨hd,rfl⟩)⟩⟩
 .exact .inr ⟨many,free,hd,m0,r,λbs mk=>⟨_,rfl,key bs (.inr ⟨many,free,hd,mk⟩)⟩⟩
end
abbrev nX :An:=top 22
abbrev zQ6 :An:=top 23
abbrev zu1 :An:=top 24
abbrev zL4 :An:=top 25
def gI {x:Str}(h:x∈words):zX (.str x) (zf3 x)=true:=by
 simp only[words,zZ9,z31,z57]at h;rcases h with rfl|rfl|rfl|rfl|rfl|rfl|rfl<;>decide +kernel
def yu {ds:List Aa}(h:∀d∈ds,xV d=true){x:Str}(a:x∈words)(day:Int):zX (.str x) (zl ds x day)=true:=by
 unfold zl;split
 .rename_i d e;obtain⟨u,i,j,v,b,rfl,_,_,_,hw⟩:=xC (h d (yh6.mp (List.mem_of_find?_eq_some e)));have:=List.find?_some e;have h2:(decide (u=x)&&(decide (i<=day)&&decide (day<=j)))=true:=this;rw[z36,z55]at h2;rw[<-h2.1];exact hw
 .exact gI a
noncomputable def isF :Aa->Bool
 |.bool b=>!b
 |_=>false
def intOf :Aa->Int
 |.int i=>i
 |_=>0
section
variable {ds:List Aa}(h:∀d∈ds,xV d=true)(day:Int)
include h
def zF4 :∃b,zl ds "come" day=.bool b:=bool_inv (by rw[<-ku];exact yu h (by simp[words]) day)
def zY3 :∃b,zl ds "go" day=.bool b:=bool_inv (by rw[<-zf6];exact yu h (by simp[words]) day)
def zn0 :∃i,zl ds "least" day=.int i/\1<=i/\i<=14:=zF (by rw[<-nA];exact yu h (by simp[words]) day)
def zF9 :∃i,zl ds "most" day=.int i/\1<=i/\i<=14:=zF (by rw[<-kh];exact yu h (by simp[words]) day)
def zP0 :∃i,zl ds "fee" day=.int i/\0<=i/\i<=1000000000000:=zF (by
 have:=yu h (x:="fee") (by simp[words]) day;rw[gC]at this;exact this)
def zs0 :zl ds "price" day=.none\/∃i,zl ds "price" day=.int i/\0<=i/\i<=1000000000000:=by
 have:=yu h (x:="price") (by simp[words]) day;rw[mL,yb4]at this;rcases this with z|z
 .left;cases e:zl ds "price" day with
  |none=>rfl
  |_=>rw[e]at z;cases z
 .exact .inr (zF z)
end
noncomputable def pB (x:Str)(d:Int):Aa:=.tuple [.str x,.int d]
noncomputable def xI (ds:List Aa)(c:Int)(n:Nat):List Aa:=((zo c n).filter λz=>wK (zl ds "price" z)).map (pB "price")
noncomputable def opt (b:Bool)(d:Aa):List Aa:=if b=true then [d]else []
noncomputable def wF (ds:List Aa)(c g:Int):List Aa:=xI ds c (g-c).toNat++opt (isF (zl ds "come" c)) (pB "come" c)++opt (isF (zl ds "go" g)) (pB "go" g)++opt (decide (g-c<intOf (zl ds "least" c))) (pB "least" c)++opt (decide (intOf (zl ds "most" c)<g-c)) (pB "most" c)
def ux (b:Bool)(d:Aa):(opt b d).length<=1:=by unfold opt;split<;>simp
def tD (ds:List Aa)(c:Int)(n:Nat):(xI ds c n).length<=n:=by
 unfold xI;rw[zZ2];have:=List.length_filter_le (λz=>wK (zl ds "price" z)) (zo c n);rw[zb]at this;exact this
def kM (C:Ae)(cs:Cs):Ph:=λas Q=>∃ds c g,as=[.dat (xo C cs ds),.dat (.tuple [.int c,.int g])]/\Rules ds/\-100<=c/\c<g/\g<=c+100/\c<=1000100/\Q (.own (wF ds c g))
noncomputable def zr1 :Aq:=match zt nX with
 |[_,_,.Assign _ (.ListComp _ _ sc _) _,_,_,_,_,_]=>sc
 |_=>zh nX
section
variable {P:Ag}{w:Ai}{K:Ac}{mg:Str->Option Ab}{base:Ao}{cs:Cs}
def zS2 :zP ["book","stay","come","go","told"] (zh nX) ["night","book"] [none,some 0] zr1:=⟨rfl,by decide +kernel,by decide +kernel,by decide +kernel,by decide +kernel,rfl,by decide +kernel⟩
def nB (ds:List Aa)(ns:List Int)(f:Aa->Bool)(hf:∀z,f (.int z)=wK (zl ds "price" z))(g:Aa->Aa)(hg:∀z,g (.int z)=pB "price" z):((ns.map PyData.int).filter f).map g=(ns.filter λz=>wK (zl ds "price" z)).map (pB "price"):=by
 rw[List.filter_map,z53];have e1:(f∘PyData.int)=λz=>wK (zl ds "price" z):=funext hf;have a:(g∘PyData.int)=pB "price":=funext hg;rw[e1,a]
def zK1 :Aa->Int
 |.int z=>z
 |_=>0
noncomputable abbrev oW (C:Ae)(cs:Cs)(ds:List Aa)(c g:Int)(l:List Aa):List (Option A):=[some (.dat (xo C cs ds)),some (.dat (.tuple [.int c,.int g])),some (.dat (.int c)),some (.dat (.int g)),some (.own l)]
def dz {C:Ae}(F:FnD K mg "bars" nX ["book","stay"])(r:Cal P w K mg base "nights_of" 1 sU)(s:uv P w K mg base C "tells_of" 2 (tQ C cs)):Cal P w K mg base "bars" 3 (kM C cs):=by
 refine zN ["book","stay","come","go","told"] F λ_ _ _ _ _ _ _ _ Q nd hr h=>?_;obtain⟨ds,c,g,rfl,a,v,y,g1,x,q⟩:=h;have m:∀d∈ds,xV d=true:=λd hd=>(a d hd).1;refine yf 2 nd (xS (λ_ _=>rfl) (zi 1 rfl (yz (⟨_,_,_,rfl,rfl,rfl,?_⟩))));refine yf 3 nd (xS (λ_ _=>rfl) (zi 1 rfl (yz (⟨_,_,_,rfl,rfl,rfl,?_⟩))));refine yv (·=oW C cs ds c g (xI ds c (g-c).toNat)) ?_ ?_
 .refine cM 4 (pat:=.one 0) nd rfl zS2 rfl (λ_ _ _ _=>yj (i:=0) zS2.nd rfl (by first|exact Or.inl rfl|exact Or.inr rfl)) (zW (EvL.d (wX r (hr.mono (by decide)) (by rfl) (zk (zi 1 rfl (zA (⟨c,g,rfl,by lia,by lia,by lia,by lia,⟨_,rfl,⟨_,rfl,⟨by rw[zZ2,zb];lia,?comp⟩⟩⟩⟩)))))))
  case comp=>
   refine vU (λd=>wK (zl ds "price" (zK1 d))) (λd=>pB "price" (zK1 d)) (λd hd=>?_) ?_
   .obtain⟨z,_,rfl⟩:=z33.mp hd;refine⟨_,rfl,λC s2 u fp Q k=>kE (vP (vp s hr (zi 1 rfl ⟨_,rfl,rfl,zk (xA (zk (zi 0 rfl (zA ⟨ds,_,_,rfl,a,by simp[words],k⟩))))⟩))),λ_ C s2 u fp Q k=>oK (zk (xA (zk (zi 0 rfl (zA (⟨_,rfl,z25 rfl,k⟩))))))⟩
   .refine zM ?_;rw[z51,nB ds _ _ (λ_=>rfl) _ (λ_=>rfl)];rfl
 rintro L rfl;have t:=tD ds c (g-c).toNat;obtain⟨j,f⟩:=zF4 m c;obtain⟨o,n⟩:=zY3 m g;obtain⟨e,p,_,_⟩:=zn0 m c;obtain⟨im,em,_,_⟩:=zF9 m c;have B:∀(l:List Aa) (b:Bool) (d:Aa) (k:Nat),l.length<=k->(l++opt b d).length<=k+1:=λl b d k h=>by have:=ux b d;rw[z24];lia
 have l1:=B _ (isF (zl ds "come" c)) (pB "come" c) _ t;have l2:=B _ (isF (zl ds "go" g)) (pB "go" g) _ l1;have l3:=B _ (decide (g-c<intOf (zl ds "least" c))) (pB "least" c) _ l2;unfold wF at q;rw[f,n,p,em]at q;rw[f,n,p]at l3;rw[f,n]at l2;rw[f]at l1;refine yv (·=oW C cs ds c g (xI ds c (g-c).toNat++opt (isF (.bool j)) (pB "come" c))) ?_ ?_
 .and_intros;refine⟨ds,_,_,rfl,a,by simp[words],⟨j,by rw[f];rfl,?_⟩⟩;cases j<;>and_intros
  .exact⟨by lia,zM (zM rfl)⟩
  .exact congrArg (oW C cs ds c g) (z73 _).symm
 rintro L rfl;generalize xI ds c (g-c).toNat++opt (isF (.bool j)) (pB "come" c)=acc at *;refine yv (·=oW C cs ds c g (acc++opt (isF (.bool o)) (pB "go" g))) ?_ ?_
 .and_intros;refine⟨ds,_,_,rfl,a,by simp[words],⟨o,by rw[n];rfl,?_⟩⟩;cases o<;>and_intros
  .exact⟨by lia,zM (zM rfl)⟩
  .exact congrArg (oW C cs ds c g) (z73 _).symm
 rintro L rfl;generalize acc++opt (isF (.bool o)) (pB "go" g)=acc at *;refine yv (·=oW C cs ds c g (acc++opt (decide (g-c<e)) (pB "least" c))) ?_ ?_
 .and_intros;refine⟨ds,_,_,rfl,a,by simp[words],⟨_,e,rfl,p,?_⟩⟩;generalize decide (g-c<e)=b;cases b<;>and_intros
  .exact congrArg (oW C cs ds c g) (z73 _).symm
  .exact⟨by lia,zM (zM rfl)⟩
 rintro L rfl
 change (acc++opt (decide (g-c<e)) (pB "least" c)).length<=_ at l3
 change Q (.own (acc++opt (decide (g-c<e)) (pB "least" c)++_))at q
 generalize acc++opt (decide (g-c<e)) (pB "least" c)=acc at *;refine yv (·=oW C cs ds c g (acc++opt (decide (im<g-c)) (pB "most" c))) ?_ ?_
 .and_intros;refine⟨ds,_,_,rfl,a,by simp[words],⟨_,im,rfl,em,?_⟩⟩;generalize decide (im<g-c)=b;cases b<;>and_intros
  .exact congrArg (oW C cs ds c g) (z73 _).symm
  .exact⟨by lia,zM (zM rfl)⟩
 rintro L rfl;exact xr 4 rfl q
end
def af {d:Aa}(h:rZ d=true):∃many free:Nat,d=.tuple [.int many,.int free]/\0<free/\free<many/\many<64:=by
 unfold rZ at h;split at h
 .rename_i m r;rw[z36]at h;obtain⟨i,e,b,i1⟩:=zF h.1;obtain⟨j,a,f,c⟩:=zF h.2;subst a;injection e with e;subst e;refine⟨m.toNat,j.toNat,?_,by lia,by lia,by lia⟩;rw[show((m.toNat:Nat):Int)=m by lia,show((j.toNat:Nat):Int)=j by lia]
 .cases h
def cA {ds:List Aa}(h:∀d∈ds,xV d=true)(day:Int):zb0 (zl ds "deal" day):=by
 have:=yu h (x:="deal") (by simp[words]) day;rw[kI,yb4]at this;rcases this with z|z
 .left;cases e:zl ds "deal" day with
  |none=>rfl
  |_=>rw[e]at z;cases z
 .exact .inr (af z)
def zw.all {ds:List Aa}(h:zw ds):∀d∈ds,xV d=true:=λd hd=>(h d hd).rule
def mj (ds:List Aa)(c g:Int):Prop:=∀z,c<=z->z<g->wK (zl ds "price" z)=false
noncomputable def prs (ds:List Aa)(c g:Int):List Int:=(zo c (g-c).toNat).map λz=>intOf (zl ds "price" z)
noncomputable def uw (ds:List Aa)(c:Int):Int:=intOf (zl ds "fee" c)
def rq {ds:List Aa}{c g z:Int}(h:zw ds)(s:mj ds c g)(h0:c<=z)(h1:z<g):zl ds "price" z=.int (intOf (zl ds "price" z))/\0<=intOf (zl ds "price" z)/\intOf (zl ds "price" z)<=1000000000000:=by
 rcases zs0 h.all z with e|⟨i,e,a,i1⟩
 .have:=s z h0 h1;rw[e]at this;cases this
 .rw[e];exact⟨rfl,a,i1⟩
def jR {ds:List Aa}(h:zw ds)(c:Int):zl ds "fee" c=.int (uw ds c)/\0<=uw ds c/\uw ds c<=1000000000000:=by
 obtain⟨i,e,a,i1⟩:=zP0 h.all c;unfold uw;rw[e];exact⟨rfl,a,i1⟩
def zG (c g:Int):Prop:=0<=c/\c<g/\g<=c+14/\g<=1000000
def pk (C:Ae)(cs:Cs):Ph:=λas Q=>∃(ds:List Aa) (c g:Int),as=[.dat (xo C cs ds),.dat (.tuple [.int c,.int g])]/\zw ds/\zG c g/\mj ds c g/\
 ∀bs rows,wI (zl ds "deal" c) (prs ds c g) bs->Q (.dat (.tuple [.int ((yQ (prs ds c g) bs).sum+uw ds c),rows,.int (uw ds c)]))
def xt (ds:List Aa)(c g:Int):Bool:=(wF ds c g).isEmpty
noncomputable def zo0 (ds:List Aa)(c g:Int):List Bool:=Classical.epsilon λbs=>wI (zl ds "deal" c) (prs ds c g) bs
noncomputable def coD (ds:List Aa)(c g:Int):Int:=(yQ (prs ds c g) (zo0 ds c g)).sum+uw ds c
noncomputable def coO (ds:List Aa)(c g:Int):Option Int:=if xt ds c g=true then some (coD ds c g)else none
noncomputable def oD :Option Int->Aa
 |some z=>.int z
 |none=>.none
def zq0 {ds:List Aa}{c g y:Int}(d:zw ds)(b:mj ds c g)(h:y∈prs ds c g):0<=y/\y<=1000000000000:=by
 obtain⟨z,a,rfl⟩:=z33.mp h;have a:=yC.mp a;exact(rq d b a.1 (by lia)).2
theorem zb4 {b:Int}:∀{ns:List Int},(∀n∈ns,0<=n/\n<=b)->0<=ns.sum/\ns.sum<=b*ns.length
 |[],_=>by simp
 |n::ns,h=>by
  have h1:=h n z03;have h2:=zb4 λm hm=>h m (z01 _ hm);rw[ye5,z28];have:b*((ns.length+1:Nat):Int)=b*ns.length+b:=by rw[yj2,Int.mul_add];simp
  lia
def zt6 {ds:List Aa}{c g:Int}{bs:List Bool}(a:zw ds)(b:mj ds c g)(mk:wI (zl ds "deal" c) (prs ds c g) bs):(yQ (prs ds c g) bs).sum+uw ds c=coD ds c g:=by
 have h2:wI (zl ds "deal" c) (prs ds c g) (zo0 ds c g):=Classical.epsilon_spec (p:=λbs=>wI (zl ds "deal" c) (prs ds c g) bs) ⟨bs,mk⟩;unfold coD;rw[ao (cA a.all c) mk h2]
def xH {L:Type}{a b:List L}:(a++b).isEmpty=(a.isEmpty&&b.isEmpty):=by cases a<;>rfl
def tW {b:Bool}{d:Aa}:(opt b d).isEmpty=!b:=by cases b<;>rfl
def zr0 {ds:List Aa}{c g:Int}:xt ds c g=true↔mj ds c g/\isF (zl ds "come" c)=false/\isF (zl ds "go" g)=false/\¬g-c<intOf (zl ds "least" c)/\¬intOf (zl ds "most" c)<g-c:=by
 unfold xt wF;rw[xH,xH,xH,xH,tW,tW,tW,tW];have:(xI ds c (g-c).toNat).isEmpty=true↔mj ds c g:=by
  unfold xI mj;rw[List.isEmpty_iff,List.map_eq_nil_iff,List.filter_eq_nil_iff];refine⟨λh z b d=>?_,λh z a=>?_⟩
  .have:=h z (yC.mpr ⟨b,by lia⟩);simpa using this
  .have a:=yC.mp a;rw[h z a.1 (by lia)];decide
 simp only[z36,this,yg5,z92,and_assoc]
def vc {ds:List Aa}{c g:Int}(h:xt ds c g=true):mj ds c g:=(zr0.mp h).1
def mI {ds:List Aa}{c g:Int}(f:c<=g){d:Aa}(h:d∈wF ds c g):∃(x:Str) (z:Int),d=pB x z/\x∈words/\c<=z/\z<=g:=by
 unfold wF at h;simp only[z44]at h;have a:∀{b:Bool} {x:Str} {z:Int},d∈opt b (pB x z)->d=pB x z:=λ{b x z} h=>by
  cases b
  .simp[opt]at h
  .simpa[opt]using h
 rcases h with(((h|h)|h)|h)|h
 .obtain⟨z,e,rfl⟩:=z33.mp h;have e:=yC.mp (yi1.mp e).1;exact⟨_,z,rfl,by simp[words],e.1,by lia⟩
 .exact⟨_,c,a h,by simp[words],by lia,by lia⟩
 .exact⟨_,g,a h,by simp[words],by lia,by lia⟩
 .exact⟨_,c,a h,by simp[words],by lia,by lia⟩
 .exact⟨_,c,a h,by simp[words],by lia,by lia⟩
def hJ {x:Str}{z:Int}(c:x∈words)(h0:-100<=z)(h1:z<=2000000):zS 5000 (pB x z)/\(pB x z).depth<=1:=by
 have b:(2000001:Int)<big:=by decide
 have a:-big<(-100:Int):=by decide
 exact⟨zS.tuple (n:=2000) (ye.two (qQ c) (zS.int (by lia) (by lia)) (z21 _) (z21 _)) (by show 2*(2000+2)+3<=5000;decide),by simp[pB,PyData.depth,PyData.depthAll]⟩
def bF {ds:List Aa}{c g:Int}:(wF ds c g).length<=(g-c).toNat+4:=by
 unfold wF;simp only[z24];have h0:=tD ds c (g-c).toNat;have h1:=ux (isF (zl ds "come" c)) (pB "come" c);have h2:=ux (isF (zl ds "go" g)) (pB "go" g);have h3:=ux (decide (g-c<intOf (zl ds "least" c))) (pB "least" c);have a:=ux (decide (intOf (zl ds "most" c)<g-c)) (pB "most" c)
 lia
def qW {ds:List Aa}{c g:Int}(f:zG c g):zS sizeLine (.list (wF ds c g)):=by
 obtain⟨i,h,g1,g2⟩:=f;refine zS.list (n:=5000) ⟨λd hd=>?_,λd hd=>?_⟩ ?_
 .obtain⟨x,z,rfl,e,a,b⟩:=mI (by lia) hd;exact(hJ e (by lia) (by lia)).1
 .obtain⟨x,z,rfl,e,a,b⟩:=mI (by lia) hd;have:=(hJ e (z:=z) (by lia) (by lia)).2
  lia
 .have h2:(wF ds c g).length*(5000+2)<=18*(5000+2):=yj0 _ (by have:=bF (ds:=ds) (c:=c) (g:=g);lia);have h3:18*(5000+2)+2<=sizeLine:=by decide
  lia
def lO {ds:List Aa}{c g:Int}(a:zw ds)(e:zG c g)(h:xt ds c g=true):0<=coD ds c g/\coD ds c g<=15000000000000:=by
 obtain⟨j,i,g1,g2⟩:=e;have d:=vc h;have f:=(jR a c).2;have s:=zb4 (b:=1000000000000) (ns:=yQ (prs ds c g) (zo0 ds c g)) λn hn=>zq0 a d (vm hn);have l:=uK (prs ds c g) (zo0 ds c g);have l2:(prs ds c g).length<=14:=by unfold prs;rw[zZ2,zb];lia
 unfold coD
 lia
def js {ds:List Aa}:PyData.eqv (.list ds) (.list [])=ds.isEmpty:=by
 cases ds<;>rfl
def rV (C:Ae)(cs:Cs):Ph:=λas Q=>∃(ds:List Aa) (c g:Int),as=[.dat (xo C cs ds),.dat (.tuple [.int c,.int g])]/\zw ds/\zG c g/\Q (.dat (.bool (xt ds c g)))
def aD (C:Ae)(cs:Cs):Ph:=λas Q=>∃(ds:List Aa) (c g:Int),as=[.dat (xo C cs ds),.dat (.tuple [.int c,.int g])]/\zw ds/\zG c g/\Q (.dat (oD (coO ds c g)))
def oM (C:Ae)(cs:Cs):Ph:=λas Q=>∃(ds:List Aa) (c g:Int),as=[.dat (xo C cs ds),.dat (.tuple [.int c,.int g])]/\zw ds/\zG c g/\xt ds c g=true/\Q (.dat (.int (coD ds c g)))
section
variable {P:Ag}{w:Ai}{K:Ac}{mg:Str->Option Ab}{base:Ao}{cs:Cs}
def fZ {C:Ae}(i:Cal P w K mg base "bill" 5 (aW C cs)):Cal P w K mg base "bill" 5 (pk C cs):=by
 refine i.imp λas Q h=>?_;obtain⟨ds,c,g,rfl,a,⟨b,l,g1,g2⟩,j,q⟩:=h;refine⟨ds,c,g,uw ds c,λz=>intOf (zl ds "price" z),rfl,a.rules,b,l,by lia,by lia,λz n k=>rq a j n k,?_,(jR a c).1,λbs mk=>q bs _ mk⟩;rcases cA a.all c with e|⟨m,f,e,f0,o,d⟩
 .exact .inl e
 .exact .inr ⟨m,f,e,by lia,d⟩
def zk0 {C:Ae}(F:FnD K mg "can_be_had" zQ6 ["book","stay"])(i:Cal P w K mg base "bars" 3 (kM C cs)):Cal P w K mg base "can_be_had" 4 (rV C cs):=by
 refine zN ["book","stay"] F λ_ _ e _ _ _ _ _ Q nd hr h=>?_;obtain⟨ds,c,g,rfl,b,a,q⟩:=h;obtain⟨f,j,g1,g2⟩:=id a;and_intros;refine⟨ds,c,g,rfl,b.rules,by lia,by lia,by lia,by lia,?_⟩;and_intros;exact eqk (qW a).shaped rfl (qW a).nod rfl (by rw[show PyData.eqv (A.own (wF ds c g)).d (.list [])=xt ds c g from js];exact q)
def bM {C:Ae}(F:FnD K mg "cost" zu1 ["book","stay"])(i:Cal P w K mg base "bars" 3 (kM C cs))(k:Cal P w K mg base "bill" 5 (pk C cs)):Cal P w K mg base "cost" 6 (oM C cs):=by
 refine zN ["book","stay","found"] F λ_ _ _ _ _ _ _ _ Q nd hr h=>?_;obtain⟨ds,c,g,rfl,b,d,a,q⟩:=h;obtain⟨f,j,g1,g2⟩:=id d;have e:wF ds c g=[]:=List.isEmpty_iff.mp a;and_intros;refine⟨ds,c,g,rfl,b.rules,by lia,by lia,by lia,by lia,?_⟩;rw[e];and_intros;refine⟨ds,c,g,rfl,b,d,vc a,λbs rows mk=>?_⟩;and_intros;show Q _;rw[zt6 b (vc a) mk];exact q
def zo6 {C:Ae}(F:FnD K mg "cost_or_none" zL4 ["book","stay"])(d:Cal P w K mg base "can_be_had" 4 (rV C cs))(f:Cal P w K mg base "bill" 5 (pk C cs)):Cal P w K mg base "cost_or_none" 6 (aD C cs):=by
 refine zN ["book","stay"] F λ_ _ _ _ _ _ _ _ Q nd hr h=>?_;obtain⟨ds,c,g,rfl,a,b,q⟩:=h;and_intros;refine⟨ds,c,g,rfl,a,b,?_⟩;and_intros;refine yh (λe=>?_) (λe=>?_)
 .and_intros;refine⟨ds,c,g,rfl,a,b,vc e,λbs rows mk=>?_⟩;and_intros;show Q _;rw[zt6 a (vc e) mk];unfold coO at q;rw[if_pos e]at q;exact q
 .and_intros;unfold coO at q;rw[if_neg (by rw[e];decide)]at q;exact q
end
abbrev zU2 :An:=top 61
abbrev sLW :An:=top 62
abbrev cE :An:=top 63
abbrev za8 :An:=top 64
abbrev zt9 :An:=top 65
instance (c g:Int):Decidable (zG c g):=by unfold zG;infer_instance
noncomputable def coB (Bs:List (List Aa)):Co:=λn b e=>if zG b e then coO (Bs.getD n []) b e else none
def zI (Bs:List (List Aa)):Prop:=∀ds∈Bs,zw ds
noncomputable def zx (C:Ae)(cs:Cs)(Bs:List (List Aa)):Aa:=.list (Bs.map (xo C cs))
def vn {Bs:List (List Aa)}{n:Nat}{ds:List Aa}{b e:Int}(h:Bs[n]?=some ds)(a:zG b e):coB Bs n b e=coO ds b e:=by
 unfold coB;rw[if_pos a,z00,h];rfl
def vY {Bs:List (List Aa)}{n:Nat}{b e x:Int}(d:zI Bs)(hn:n<Bs.length)(h:coB Bs n b e=some x):zG b e/\xt (Bs.getD n []) b e=true/\x=coD (Bs.getD n []) b e/\0<=x/\x<=15000000000000:=by
 unfold coB at h;split at h
 .rename_i c;unfold coO at h;split at h
  .rename_i a;cases h;have:=lO (d _ (by rw[z00,zZ5 hn];exact z69 hn)) c a;exact⟨c,a,rfl,this.1,this.2⟩
  .cases h
 .cases h
noncomputable abbrev arrOf (Bs:List (List Aa))(W:List Way)(day:Int):List (Int×Part):=uH (coB Bs) Bs.length W day
noncomputable abbrev kx (Bs:List (List Aa))(c g:Int):List Way:=yc (coB Bs) Bs.length c (g-c).toNat
noncomputable abbrev bestOf (Bs:List (List Aa))(c g:Int):Aa:=mB (coB Bs) Bs.length c g
def zw6 (C:Ae)(cs:Cs):Ph:=λas Q=>∃(Bs:List (List Aa)) (W:List Way) (day:Int),as=[.dat (zx C cs Bs),.dat (yW (W.map tM)),.dat (.int day)]/\zI Bs/\Bs.length<=8/\W.length<=20/\(∀w∈W,zG w.1 day/\yg W w.1=some w.2)/\Q (.own ((arrOf Bs W day).map wx))
def zR8 (C:Ae)(cs:Cs):Ph:=λas Q=>∃(Bs:List (List Aa)) (c g:Int),as=[.dat (zx C cs Bs),.dat (.tuple [.int c,.int g])]/\zI Bs/\Bs.length<=8/\zG c g/\Q (.dat (yW ((kx Bs c g).map tM)))
def zc7 (W:List Way)(c g:Int):Prop:=W.length<=20/\∃(co:Co) (N:Nat),wy co N c (g-c).toNat W
def iq :Ph:=λas Q=>∃(W:List Way) (c g:Int),as=[.dat (yW (W.map tM)),.dat (.tuple [.int c,.int g])]/\zc7 W c g/\zG c g/\(∃p,yg W g=some p)/\Q (.own ((wV W c (g-c).toNat g).reverse.map xE))
def iR :Ph:=λas Q=>∃(W:List Way) (c g:Int),as=[.dat (yW (W.map tM)),.dat (.tuple [.int c,.int g])]/\zc7 W c g/\zG c g/\Q (.own ((xO W c (g-c).toNat).map .int))
def ba (C:Ae)(cs:Cs):Ph:=λas Q=>∃(Bs:List (List Aa)) (c g:Int),as=[.dat (zx C cs Bs),.dat (.tuple [.int c,.int g])]/\zI Bs/\Bs.length<=8/\zG c g/\∀S,Q (.deep (bestOf Bs c g) S)
theorem rn {co:Co}{N:Nat}{c:Int}:∀k,(yc co N c k).length<=k+1
 |0=>zZ8 _
 |k+1=>by
  have:=rn (co:=co) (N:=N) (c:=c) k;unfold yc nZ;split
  .lia
  .rw[z24,yh8];lia
theorem xT {L:Type}{f:L->Aa}(h:∀x,noL (f x)=true):∀l:List L,wY (l.map f)=true
 |[]=>rfl
 |x::l=>by rw[z27,wY,h x,xT h l]<;>rfl
theorem yq {L:Type}{f:L->Aa}(h:∀x,(f x).hasDict=false):∀l:List L,PyData.hasDictAll (l.map f)=false
 |[]=>rfl
 |x::l=>by rw[z27,PyData.hasDictAll,h x,yq h l]<;>rfl
def isEmpty_map {L β:Type}{f:L->β}{l:List L}:(l.map f).isEmpty=l.isEmpty:=by cases l<;>rfl
section
variable {P:Ag}{w:Ai}{K:Ac}{mg:Str->Option Ab}{base:Ao}{cs:Cs}
theorem jY {co:Co}{N:Nat}{day:Int}:∀W:List Way,(uH co N W day).length<=W.length*N
 |[]=>by simp[uH]
 |w::W=>by
  have a:=jY (co:=co) (N:=N) (day:=day) W;unfold uH at a ⊢;rw[List.flatMap_cons,z24,z28,Nat.add_mul];have:(dR co N day w).length<=N:=by
   unfold dR;exact z05 (List.length_filterMap_le _ _) (by simp)
  lia
def uI (co:Co)(j:Nat)(day:Int)(w:Way):List (Int×Part):=(List.range j).filterMap λn=>(co n w.1 day).map λx=>(w.2.1+x,(w.1,day,n))
def bZ {co:Co}{j:Nat}{day:Int}{w:Way}:(uI co j day w).length<=j:=by
 unfold uI;exact z05 (List.length_filterMap_le _ _) (by simp)
def zl7 {C:Ae}(F:FnD K mg "arrivals" zU2 ["books","ways","day"])(nb:NbT mg)(s:Cal P w K mg base "cost_or_none" 6 (aD C cs)):Cal P w K mg base "arrivals" 7 (zw6 C cs):=by
 refine zN ["books","ways","day","found","begin","number","book","coins"] F λ_ _ t _ _ _ _ _ Q nd hr h=>?_;obtain⟨Bs,W,day,rfl,r,bl,wl,ws,q⟩:=h;refine xu 3 nd ?_;and_intros;refine zQ (.one 4) (zp5 (zi 1 rfl ⟨_,rfl,?_⟩));refine zB (λi L=>∃m b a c:Option A,L=[some (.dat (zx C cs Bs)),some (.dat (yW (W.map tM))),some (.dat (.int day)),some (.own ((arrOf Bs (W.take i) day).map wx)),m,b,a,c]) ⟨none,none,none,none,rfl⟩ ?_ ?_
 .rintro i d L hd ⟨m,b,a,c,rfl⟩;rw[z04,z04,Option.map_map,z22]at hd;obtain⟨u,n,rfl⟩:=hd;have l:=z47 n;have hi:=(zZ6.mp n).1;refine⟨_,rfl,?_⟩;refine zQ (.many [5,6]) (pR (by rfl) nb.enumerate (zi 0 rfl ⟨_,rfl,?_⟩));refine zB (λj L=>∃b a c:Option A,L=[some (.dat (zx C cs Bs)),some (.dat (yW (W.map tM))),some (.dat (.int day)),some (.own ((arrOf Bs (W.take i) day++uI (coB Bs) j day u).map wx)),some (.dat (.int u.1)),b,a,c]) ⟨b,a,c,by rw[show uI (coB Bs) 0 day u=[]from rfl,z73]<;>rfl⟩ ?_ ?_
  .rintro j d L hd ⟨b,a,c,rfl⟩;obtain⟨e,he,rfl⟩:=wa hd;rw[z04,z22]at he;obtain⟨ds,f,rfl⟩:=he;have v:=(zZ6.mp f).1;have p:=vn f (ws u l).1;have o:uI (coB Bs) (j+1) day u=uI (coB Bs) j day u++((coB Bs j u.1 day).map λx=>(u.2.1+x,(u.1,day,j))).toList:=by
    unfold uI;rw[List.range_succ,List.filterMap_append];simp only[ya8,List.filterMap_nil];cases(coB Bs j u.1 day)<;>rfl
   refine⟨_,rfl,?_⟩;and_intros;refine⟨ds,u.1,day,rfl,r ds (z47 f),(ws u l).1,?_⟩;and_intros;refine zv (λg=>?_) (λg=>?_)
   .cases ex:coO ds u.1 day with
    |none=>rw[ex]at g;cases g
    |some x=>
     and_intros;refine uy (k:=.inl u.1) rfl (by rw[yZ,(ws u l).2]<;>rfl) ?_;and_intros;refine⟨?_,?_⟩
     .have l1:(arrOf Bs (W.take i) day).length<=(W.take i).length*Bs.length:=jY _;have l2:=bZ (co:=coB Bs) (j:=j) (day:=day) (w:=u);have l3:(W.take i).length*Bs.length<=20*8:=Nat.mul_le_mul (by rw[z49];lia) bl;rw[zZ2,z24]
      lia
     .and_intros;have e1:List.map wx (arrOf Bs (W.take i) day++uI (coB Bs) (j+1) day u)=List.map wx (arrOf Bs (W.take i) day++uI (coB Bs) j day u)++[wx (u.2.1+x,(u.1,day,j))]:=by
       rw[o,p,ex,<-List.append_assoc,z54 (l₂:=(Option.map _ _).toList)];rfl
      exact⟨_,_,_,by rw[e1,yi9]<;>rfl⟩
   .and_intros;have hn:coO ds u.1 day=none:=by
     cases ex:coO ds u.1 day with
     |none=>rfl
     |some x=>rw[ex]at g;cases g
    have e1:uI (coB Bs) (j+1) day u=uI (coB Bs) j day u:=by
     rw[o,p,hn];simp only[Option.map_none,Option.toList_none,z73]
    exact⟨_,_,_,by rw[e1]<;>rfl⟩
  .rintro L ⟨b,a,c,rfl⟩;and_intros;have:arrOf Bs (W.take (i+1)) day=arrOf Bs (W.take i) day++uI (coB Bs) Bs.length day u:=by
    unfold arrOf uH;rw[z75,n,List.flatMap_append];simp[dR,uI]
   exact⟨_,_,_,_,by rw[this,xX,zZ2]⟩
 .rintro L ⟨m,b,a,c,rfl⟩;rw[zZ2,zZ2,z80];exact xr 3 rfl q
def zF3 {C:Ae}(F:FnD K mg "least_ways" sLW ["books","stay"])(nb:NbT mg)(v:Cal P w K mg base "arrivals" 7 (zw6 C cs)):Cal P w K mg base "least_ways" 8 (zR8 C cs):=by
 refine zN ["books","stay","ways","day","found"] F λ_ _ t _ _ _ _ _ Q nd hr h=>?_;obtain⟨Bs,c,g,rfl,r,bl,⟨s,y,g1,g2⟩,q⟩:=h;refine zi5 2 nd (cG ?_);and_intros;refine⟨.inl c,rfl,?_⟩;refine zQ (.one 3) (yJ (by rfl) nb.range ?_);and_intros;refine⟨⟨by lia,by lia,by lia,by lia⟩,?_⟩;refine zB (λi L=>∃m j:Option A,L=[some (.dat (zx C cs Bs)),some (.dat (.tuple [.int c,.int g])),some (.dic ((yc (coB Bs) Bs.length c i).map tM)),m,j]) ⟨none,none,rfl⟩ ?_ ?_
 .rintro i d L hd ⟨m,j,rfl⟩;rw[z04,z22]at hd;obtain⟨z,n,rfl⟩:=hd;have hi:=(zZ6.mp n).1;rw[zb]at hi;rw[zE hi]at n;cases n;have o:(i:Int)<g-c:=by lia
  have f:=zl3 (co:=coB Bs) (N:=Bs.length) c i;have wl:=rn (co:=coB Bs) (N:=Bs.length) (c:=c) i;refine⟨_,rfl,?_⟩;refine yf 4 nd (EvL.d (aR 2 rfl ?_));and_intros;refine⟨Bs,yc (coB Bs) Bs.length c i,c+1+(i:Int),rfl,r,bl,by lia,λu k=>⟨?_,f.find k⟩,?_⟩
  .have h1:=f.low u k;have h2:=f.top u k;exact⟨by lia,by lia,by lia,by lia⟩
  refine⟨_,rfl,xT (λ_=>rfl) _,?_⟩;and_intros;have nx:yc (coB Bs) Bs.length c (i+1)=nZ (coB Bs) Bs.length (yc (coB Bs) Bs.length c i) (c+1+(i:Int)):=rfl;unfold nZ at nx;rw[show(!(List.map wx (arrOf Bs (yc (coB Bs) Bs.length c i) (c+1+(i:Int)))).isEmpty)=!(arrOf Bs (yc (coB Bs) Bs.length c i) (c+1+(i:Int))).isEmpty by rw[isEmpty_map]];refine zv (λb=>?_) (λb=>?_)
  .have ne:arrOf Bs (yc (coB Bs) Bs.length c i) (c+1+(i:Int))≠[]:=λe=>by rw[e]at b;cases b
   rw[if_neg ne]at nx;refine zs2 2 hr.one rfl (zn6 rfl hr.few (by rfl) nb.min ?_);and_intros;refine⟨λe=>ne (List.map_eq_nil_iff.mp e),yq (λ_=>rfl) _,bV _,λd hd=>?_,?_⟩
   .obtain⟨p,_,rfl⟩:=z33.mp hd;exact⟨rfl,by simp[wx,xE,PyData.depth,PyData.depthAll]⟩
   rw[zm6 ne];and_intros;refine⟨.inl (c+1+(i:Int)),rfl,by rw[zZ2];lia,?_⟩;and_intros;have fn:yg (yc (coB Bs) Bs.length c i) (c+1+(i:Int))=none:=by
    cases e:yg (yc (coB Bs) Bs.length c i) (c+1+(i:Int))with
    |none=>rfl
    |some p=>
     have:=f.top _ (find_some (x:=p.1) (l:=p.2) e);have:c+1+(i:Int)<=c+i:=this
     lia
   exact⟨_,_,by rw[nx,<-bJ fn]<;>rfl⟩
  .have e:arrOf Bs (yc (coB Bs) Bs.length c i) (c+1+(i:Int))=[]:=by
    cases e:arrOf Bs (yc (coB Bs) Bs.length c i) (c+1+(i:Int))with
    |nil=>rfl
    |cons a l=>rw[e]at b;cases b
   rw[if_pos e]at nx;and_intros;exact⟨_,_,by rw[nx]<;>rfl⟩
 .rintro L ⟨m,j,rfl⟩;rw[zZ2,zb,show(g+1-(c+1)).toNat=(g-c).toNat by lia];refine zI8 2 rfl ?_;and_intros;exact q
def zi6 (F:FnD K mg "cut_of" cE ["ways","stay"])(nb:NbT mg):Cal P w K mg base "cut_of" 1 iq:=by
 refine zN ["ways","stay","backwards","day","part"] F λ_ _ C _ _ _ _ _ Q nd hr h=>?_;obtain⟨W,c,g,rfl,⟨wl,co,N,b⟩,⟨z,D,g1,g2⟩,⟨t,j⟩,q⟩:=h;refine xu 2 nd ?_;and_intros;generalize hn:(g-c).toNat=n at b q;refine dS yc7 (λm L=>∃(s:Option A) (d:Int) (p:Int×Option Part) (acc:List Part),L=[some (.dat (yW (W.map tM))),some (.dat (.tuple [.int c,.int g])),some (.own (acc.map xE)),some (.dat (.int d)),s]/\yg W d=some p/\d-c<=m/\acc.length+m<=n/\wV W c n g=acc++wV W c m d) n ⟨none,g,t,[],rfl,j,by lia,by simp,rfl⟩ ?_;rintro m L ⟨s,d,p,acc,rfl,fd,B,al,f⟩;have r:=find_some (x:=p.1) (l:=p.2) fd;have lo:c<=d:=b.low _ r;and_intros;refine yh (λi=>?_) (λi=>?_)
 .have a:d≠c:=by simpa using i
  obtain⟨m,rfl⟩:∃k,m=k+1:=⟨m-1,by lia⟩;rcases b.step _ r with e|⟨u,v,k,y,h1,h2,h3,e⟩
  .injection e with e _;exact absurd e a
  have h1:u.1<d:=h1;have e:(d,p.1,p.2)=(d,u.2.1+y,some (u.1,d,k)):=e;have o:p=(u.2.1+y,some (u.1,d,k)):=by injection e
  and_intros;refine uy (k:=.inl d) rfl (by rw[yZ,fd]<;>rfl) ?_;rw[o];and_intros;refine⟨by rw[zZ2];lia,?_⟩;and_intros;refine⟨m,by lia,_,u.1,u.2,acc++[(u.1,d,k)],by rw[z54]<;>rfl,b.find v,by lia,by rw[z24,yh8];lia,?_⟩;rw[f,wV,if_neg a,fd,o,List.append_assoc];rfl
 .have a:d=c:=by simpa using i
  subst a;refine tU (ip 2 rfl (lI rfl (by rfl) nb.list (by rfl) nb.reversed ?_));and_intros;have:wV W d m d=[]:=by cases m<;>simp[wV]
  rw[this,z73]at f;rw[f]at q;rw[<-List.map_reverse];exact⟨xT (λ_=>rfl) _,q⟩
def eM (F:FnD K mg "paper_of" za8 ["ways","stay"])(nb:NbT mg):Cal P w K mg base "paper_of" 1 iR:=by
 refine zN ["ways","stay","highest","heights"] F λ_ _ _ _ _ _ _ _ Q nd hr h=>?_;obtain⟨W,c,g,rfl,⟨wl,co,N,a⟩,⟨i,j,g1,g2⟩,q⟩:=h;refine yf 2 nd (zp8 rfl (by rfl) nb.max (EvL.d (yS ["way"] [none] (.one 0) (zk7 ?_))));and_intros;refine⟨by rw[zZ2,zZ2];lia,?_⟩;rw[z53];refine zV (λu=>.int u.2.1) (λu f=>⟨_,rfl,λ_ _ _ _ _ k=>?_⟩) ?_
 .and_intros;exact k
 refine⟨rh W,by unfold rh;rw[z53]<;>rfl,λe=>?_,?_⟩
 .obtain⟨r,hr,_⟩:=a.first;rw[hr]at e;cases e
 generalize hn:(g-c).toNat=n at a q;refine zc4 3 ["day","ways","highest"] [none,some 0,some 2] (.one 0) (yJ (by rfl) nb.range ?_);and_intros;refine⟨⟨by lia,by lia,by lia,by lia⟩,by rw[zZ2,zb];lia,?_⟩;rw[show(g+1-c).toNat=n+1 by lia];refine zV (λd=>.int (hW W d)) (λd hd=>⟨_,rfl,λ_ _ _ _ _ k=>?_⟩) ?_
 .and_intros;refine mC (k:=.inl d) rfl ?_;rw[yZ];cases e:yg W d with
  |none=>
   and_intros;rw[sv e]at k;exact k
  |some p=>
   and_intros;refine uy (k:=.inl d) rfl (by rw[yZ,e]<;>rfl) ?_;and_intros;rw[wu (x:=p.1) (l:=p.2) e]at k;exact k
 refine qf 3 rfl ?_;refine tU (yS ["lower","higher"] [none,none] (.many [0,1]) (ag (by rfl) nb.zip ?_));and_intros;have b:(zo c (n+1)).map (λd=>PyData.int (hW W d))=((zo c (n+1)).map (hW W)).map PyData.int:=by rw[z53]<;>rfl
 rw[z51,b,cR];refine⟨by rw[zZ2,zb];lia,?_⟩;refine zV (λd=>.int (hW W (d+1)-hW W d)) (λd hd=>⟨_,rfl,λ_ _ _ _ _ k=>?_⟩) ?_
 .and_intros;exact k
 .unfold xO at q;rw[z53]at q;exact q
theorem aQ {C:Ae}(F:FnD K mg "best" zt9 ["books","stay"])(nb:NbT mg)(n:Cal P w K mg base "least_ways" 8 (zR8 C cs))(j:Cal P w K mg base "cut_of" 1 iq)(i:Cal P w K mg base "paper_of" 1 iR):Cal P w K mg base "best" 9 (ba C cs):=by
 refine zN ["books","stay","ways"] F λ_ _ _ _ _ _ _ _ Q nd hr h=>?_;obtain⟨Bs,c,g,rfl,d,bl,a,q⟩:=h;obtain⟨l,m,g1,g2⟩:=id a;have f:=zl3 (co:=coB Bs) (N:=Bs.length) c (g-c).toNat;have wl:=rn (co:=coB Bs) (N:=Bs.length) (c:=c) (g-c).toNat;have b:zc7 (kx Bs c g) c g:=⟨by show(yc _ _ _ _).length<=20;lia,_,_,f⟩;and_intros;refine⟨Bs,c,g,rfl,d,bl,a,?_⟩;and_intros;refine mC (k:=.inl g) rfl ?_;rw[yZ];unfold bestOf mB at q;cases e:yg (kx Bs c g) g with
 |none=>
  rw[e]at q;refine jv rfl ?_;refine iA (dg (xY (ke (xA ⟨rfl,?_⟩))));refine xY (oO (zf0 rfl (by rfl) nb.list (zi 2 rfl ⟨_,rfl,?_⟩)));rw[z53];refine⟨xT (λ_=>rfl) _,jy ⟨z25 rfl,?_⟩⟩;exact q
 |some p=>
  rw[e]at q;refine tY rfl (zM ?_);refine iA (dg (xY (ke (xA ⟨rfl,?_⟩))));refine xY (ke ?_);and_intros;refine uy (k:=.inl g) rfl (by rw[yZ,e]<;>rfl) ?_;and_intros;refine⟨rfl,xY (oO ?_)⟩;and_intros;refine⟨_,c,g,rfl,b,a,⟨p,e⟩,_,rfl,xT (λ_=>rfl) _,xY (oO ?_)⟩;and_intros;refine⟨_,c,g,rfl,b,a,_,rfl,xT (λ_=>rfl) _,jy ⟨z25 rfl,?_⟩⟩;exact q
end
structure zh9 (Bs:List (List Aa))(c g x:Int)(ps:List Part)(pp:List Int):Prop where
 eq:bestOf Bs c g=.tuple [.str "had",.int x,.list (ps.map xE),.list (pp.map .int)]
 cut:Cut (coB Bs) Bs.length c g x ps
 least:∀y qs,Cut (coB Bs) Bs.length c g y qs->x<=y
 plen:pp.length=(g-c).toNat
 psum:pp.sum=x
 paper:∀n b e y,n<Bs.length->c<=b->b<e->e<=g->coB Bs n b e=some y->((pp.drop (b-c).toNat).take (e-b).toNat).sum<=y
 pbd:∀n∈pp,-300000000000000<=n/\n<=300000000000000
theorem zf5 {co:Co}{N:Nat}{a b z:Int}{ps:List Part}(h:Cut co N a b z ps)(h0:∀n b e x,n<N->co n b e=some x->0<=x/\x<=15000000000000):0<=z/\z<=15000000000000*(b-a):=by
 induction h with
 |nil a=>lia
 |@cons a e b x z n ps h1 h2 h3 h ih=>
  have:=h0 _ _ _ _ h2 h3
  lia
theorem zy4 {co:Co}{N:Nat}{c:Int}{n:Nat}{W:List Way}(a:wy co N c n W)(hn:n<=14)(h0:∀n b e x,n<N->co n b e=some x->0<=x/\x<=15000000000000)(d:Int):0<=hW W d/\hW W d<=210000000000000:=by
 have one:∀w∈W,0<=w.2.1/\w.2.1<=210000000000000:=λw hw=>by
  have t:=a.top w hw;have l:=a.low w hw;have:=zf5 (a.back n (d:=w.1) (x:=w.2.1) (l:=w.2.2) hw (by lia)) h0
  lia
 cases e:yg W d with
 |some p=>
  rw[wu (x:=p.1) (l:=p.2) e];exact one _ (find_some (x:=p.1) (l:=p.2) e)
 |none=>
  rw[sv e];have:uT (rh W)∈rh W:=cN λz=>by
   obtain⟨r,hr,_⟩:=a.first;rw[hr]at z;cases z
  unfold rh at this;obtain⟨w,hw,f⟩:=z33.mp this;have:=one w hw;unfold zg6 rh;rw[<-f];exact this
structure zo8 (Bs:List (List Aa))(c g:Int)(ds:List Int):Prop where
 eq:bestOf Bs c g=.tuple [.str "off",.list (ds.map .int)]
 none:∀y qs,¬Cut (coB Bs) Bs.length c g y qs
 first:∃r,ds=c::r
 sort:ds.Pairwise (·<·)
 rng:∀d∈ds,c<=d/\d<g
 shut:∀d∈ds,∀e n y,d<e->e<=g->n<Bs.length->coB Bs n d e=some y->e∈ds
theorem rz {Bs:List (List Aa)}{c g:Int}(w:zI Bs)(B:zG c g):(∃x ps pp,zh9 Bs c g x ps pp)\/∃ds,zo8 Bs c g ds:=by
 obtain⟨D,E,g1,g2⟩:=B;obtain⟨n,hn⟩:∃n:Nat,g=c+n:=⟨(g-c).toNat,by lia⟩;subst hn;have j:(c+(n:Int)-c).toNat=n:=by lia
 have a:=zl3 (co:=coB Bs) (N:=Bs.length) c n;have h0:∀m b e x,m<Bs.length->coB Bs m b e=some x->0<=x:=λm b e x hm h=>(vY w hm h).2.2.2.1;have eq:bestOf Bs c (c+n)=_:=rfl;unfold bestOf mB at eq;rw[j]at eq;cases e:yg (yc (coB Bs) Bs.length c n) (c+n)with
 |none=>
  right;rw[e]at eq;refine⟨(yc (coB Bs) Bs.length c n).map (·.1),?_,λy qs=>a.off e,?_,a.sort,λd hd=>?_,λd hd k m y h1 h2 h3 s=>?_⟩
  .unfold bestOf mB;rw[j,e,z53];rfl
  .obtain⟨r,hr,_⟩:=a.first;rw[hr];exact⟨_,rfl⟩
  .obtain⟨u,f,rfl⟩:=z33.mp hd;have h1:=a.low u f;have h2:=a.top u f;have h3:=find_none e u f;exact⟨h1,by lia⟩
  .obtain⟨u,f,rfl⟩:=z33.mp hd;obtain⟨v,o,e1,_⟩:=a.shut u f k m y h1 h2 h3 s;exact z33.mpr ⟨v,o,e1⟩
 |some p=>
  left;have hd:=a.had (x:=p.1) (l:=p.2) e;refine⟨p.1,(wV (yc (coB Bs) Bs.length c n) c n (c+n)).reverse,xO (yc (coB Bs) Bs.length c n) c n,?_,a.back n (find_some (x:=p.1) (l:=p.2) e) (by lia),hd.2,?_,?_,λm b k y h1 h2 h3 s t=>?_,?_⟩
  .unfold bestOf mB;rw[j,e]
  .rw[eI,j]
  .rw[eL,wu (x:=p.1) (l:=p.2) e,wu a.zero]
   lia
  rotate_left
  .intro C i;unfold xO at i;obtain⟨d,_,rfl⟩:=z33.mp i;have z:∀m b e x,m<Bs.length->coB Bs m b e=some x->0<=x/\x<=15000000000000:=λm b e x hm h=>(vY w hm h).2.2.2;have h1:=zy4 a (by lia) z (d+1);have h2:=zy4 a (by lia) z d
   lia
  .rw[gA (by lia),show c+((b-c).toNat:Int)=b by lia,show b+((k-b).toNat:Int)=k by lia];cases eb:yg (yc (coB Bs) Bs.length c n) b with
   |none=>
    have:=zT8 (yc (coB Bs) Bs.length c n) k;rw[sv eb];have:=h0 _ _ _ _ h1 t
    lia
   |some q=>
    obtain⟨v,o,e1,A⟩:=a.shut _ (find_some (x:=q.1) (l:=q.2) eb) k m y h3 s h1 t;rw[wu (x:=q.1) (l:=q.2) eb,wu (x:=v.2.1) (l:=v.2.2) (a.find (by rw[<-e1];exact o))];exact Int.sub_left_le_of_le_add A
def oB {Bs:List (List Aa)}{n:Nat}(hn:n<Bs.length):∃ds,Bs[n]?=some ds/\Bs.getD n []=ds:=⟨Bs[n],zZ5 hn,by rw[z00,zZ5 hn]<;>rfl⟩
abbrev jQ :An:=top 75
abbrev zy5 :An:=top 74
def cD :Ph:=λas Q=>∃bs a:Int,as=[.tape,.dat (.int bs),.dat (.int a)]/\Bd bs a/\∀c g:Int,zG c g->Q (.dat (.tuple [.int c,.int g]))
def ir (C:Ae)(cs:Cs):Ph:=λas Q=>∃bs a:Int,as=[.tape,.dat (.int bs),.dat (.int a)]/\Bd bs a/\∀Bs,zI Bs->1<=Bs.length->Bs.length<=4->(∀ds∈Bs,ds.length<=10)->Q (.own (Bs.map (xo C cs)))
section
variable {P:Ag}{w:Ai}{K:Ac}{mg:Str->Option Ab}{base:Ao}{cs:Cs}
def bQ (F:FnD K mg "_law_stay" zy5 ["_law_tape_here","_law_base","_law_days"])(a:Cal P w K mg base "_law_draw" 1 yL):Cal P w K mg base "_law_stay" 2 cD:=by
 refine zN ["_law_tape_here","_law_base","_law_days","_law_many","_law_come"] F λ_ _ _ _ _ _ _ _ Q nd hr h=>?_;obtain⟨bs,g,rfl,⟨e,c,f,d⟩,q⟩:=h;have b:(1000001:Int)<big:=by decide
 refine yf 3 nd (vL (yz (oY a hr (by rfl) (oH 0 rfl (zk (zi 2 rfl (zA (⟨_,rfl,by lia,by lia,λv1 h1 g1=>⟨_,_,rfl,rfl,?_⟩⟩))))))));refine yf 4 nd (vL (zi 1 rfl (oY a hr (by rfl) (oH 0 rfl (zk (vL (lL (zi 2 rfl (zi 3 rfl (⟨_,_,rfl,rfl,yz (⟨_,_,rfl,rfl,zA (⟨_,rfl,by lia,by lia,λv2 h2 g2=>⟨_,_,rfl,rfl,?_⟩⟩)⟩)⟩))))))))));and_intros;exact q _ _ ⟨by lia,by lia,by lia,by lia⟩
def eG {C:Ae}(F:FnD K mg "_law_books" jQ ["_law_tape_here","_law_base","_law_days"])(nb:NbT mg)(k:Cal P w K mg base "_law_draw" 1 yL)(CR:Cal P w K mg base "_law_rules" 5 ng)(j:uN P w K mg base "Book" 9 [] (oN C cs)):Cal P w K mg base "_law_books" 11 (ir C cs):=by
 refine zN ["_law_tape_here","_law_base","_law_days","_law_found","_law_k"] F λ_ _ _ _ _ _ _ _ Q nd hr h=>?_;obtain⟨bs,f,rfl,bd,q⟩:=h;refine xu 3 nd ?_;and_intros;refine zQ (.one 4) (xx (by rfl) nb.range ?_);and_intros;rename_i v h0 h1;refine⟨by lia,by lia,?_⟩;refine zB (λi L=>∃(e:Option A) (Bs:List (List Aa)),zI Bs/\Bs.length=i/\(∀ds∈Bs,ds.length<=10)/\L=[some .tape,some (.dat (.int bs)),some (.dat (.int f)),some (.own (Bs.map (xo C cs))),e]) ⟨none,[],λ_ h=>by simp at h,rfl,λ_ h=>by simp at h,rfl⟩ ?_ ?_
 .rintro i d L hd ⟨e,Bs,c,bl,dl,rfl⟩;have hi:=(zZ6.mp hd).1;rw[zZ2,zb]at hi;refine⟨_,rfl,?_⟩;and_intros;refine⟨bs,f,rfl,bd,λds g l1 ld=>?_⟩;and_intros;refine wH (λd=>∃b:Int,d=.int b) rfl (by assumption) (by assumption) ⟨⟨_,rfl⟩,⟨_,rfl⟩,trivial⟩ ?_;rintro _ ⟨b,rfl⟩;and_intros;have rc:zw (L2.cutD ds none (some b)):=λd hd=>g d (iX hd);have lc:=z05 (ua (ds:=ds) (lo:=none) (hi:=some b)) ld;refine⟨_,.inl rfl,rc.rules,by lia,?_⟩;and_intros;refine⟨by rw[zZ2];lia,?_⟩;and_intros;refine⟨_,Bs++[L2.cutD ds none (some b)],λx a=>?_,by rw[z24,bl]<;>rfl,λx a=>?_,by rw[z54]<;>rfl⟩
  .rcases z44.mp a with a|a
   .exact c x a
   .rw[z06.mp a];exact rc
  .rcases z44.mp a with a|a
   .exact dl x a
   .rw[z06.mp a];exact lc
 .rintro L ⟨e,Bs,c,bl,dl,rfl⟩;rw[zZ2,zb]at bl;exact xr 3 rfl (q Bs c (by lia) (by lia) dl)
end
abbrev jV :An:=top 27
abbrev za7 :An:=top 28
abbrev P3 :=Int×Int×Int
noncomputable def pD (p:P3):Aa:=.tuple [.int p.1,.int p.2.1,.int p.2.2]
def rF (ps:List P3):(PyData.list (ps.map pD)).hasDict=false:=by
 rw[PyData.hasDict];exact yq (λ_=>rfl) ps
def sX (ps:List P3):(PyData.tuple (ps.map pD)).hasDict=false:=by
 rw[PyData.hasDict];exact yq (λ_=>rfl) ps
def uM (zs:List Int):(PyData.list (zs.map .int)).hasDict=false:=by
 rw[PyData.hasDict];exact yq (λ_=>rfl) zs
noncomputable def ui (Bs:List (List Aa))(c g:Int)(p:P3):Bool:=decide (c<=p.1)&&(decide (p.1<p.2.1)&&(decide (p.2.1<=g)&&(decide (0<=p.2.2)&&(decide (p.2.2<Bs.length)&&xt (Bs.getD p.2.2.toNat []) p.1 p.2.1))))
noncomputable def xl (Bs:List (List Aa))(c g:Int):Int->List P3->Bool
 |day,[]=>decide (day=g)
 |day,p::ps=>ui Bs c g p&&(decide (p.1=day)&&xl Bs c g p.2.1 ps)
def zc5 (C:Ae)(cs:Cs):Ph:=λas Q=>∃(Bs:List (List Aa)) (c g:Int) (p:P3),as=[.dat (zx C cs Bs),.dat (.tuple [.int c,.int g]),.dat (pD p)]/\zI Bs/\zG c g/\Q (.dat (.bool (ui Bs c g p)))
def iD (C:Ae)(cs:Cs):Ph:=λas Q=>∃(Bs:List (List Aa)) (c g:Int) (cu:Aa),as=[.dat (zx C cs Bs),.dat (.tuple [.int c,.int g]),.dat cu]/\zI Bs/\zG c g/\((∃ps:List P3,cu=.list (ps.map pD)/\Q (.dat (.bool (xl Bs c g c ps))))\/∃ps:List P3,cu=.tuple (ps.map pD)/\Q (.dat (.bool false)))
def fJ {a:Type}(l:List a):l.map (λ_=>PyData.bool true)=(l.map λ_=>true).map .bool:=by rw[z53]<;>rfl
section
variable {P:Ag}{w:Ai}{K:Ac}{mg:Str->Option Ab}{base:Ao}{cs:Cs}
def cY {C:Ae}(F:FnD K mg "is_part" jV ["books","stay","thing"])(nb:NbT mg)(v:Cal P w K mg base "is_whole" 1 bG)(t:Cal P w K mg base "can_be_had" 4 (rV C cs)):Cal P w K mg base "is_part" 5 (zc5 C cs):=by
 refine zN ["books","stay","thing"] F λ_ _ _ _ _ _ _ _ Q nd hr h=>?_;obtain⟨Bs,c,g,⟨b,e,n⟩,rfl,s,⟨u,x,g1,g2⟩,q⟩:=h;refine yv (λL=>L=[some (.dat (zx C cs Bs)),some (.dat (.tuple [.int c,.int g])),some (.dat (.tuple [.int b,.int e,.int n]))]) ?_ ?_
 .and_intros;rfl
 rintro L rfl;refine yv (λL=>L=[some (.dat (zx C cs Bs)),some (.dat (.tuple [.int c,.int g])),some (.dat (.tuple [.int b,.int e,.int n]))]) ?_ ?_
 .refine ue (oR (rA (sP rfl (by rfl) nb.all (EvL.d (yS ["number"] [none] (.one 0) (zC3 (zi 2 rfl ⟨_,rfl,z25 rfl,?_⟩)))))));refine zV (g:=PyData.int) (l:=[b,e,n]) (λ_=>.bool true) (λz y=>⟨_,rfl,λ_ _ _ _ _ k=>?_⟩) ?_
  .and_intros;exact k
  rw[z51,fJ];and_intros;rfl
 rintro L rfl;unfold ui at q;refine yv (λL=>L=[some (.dat (zx C cs Bs)),some (.dat (.tuple [.int c,.int g])),some (.dat (.tuple [.int b,.int e,.int n]))]/\c<=b/\b<e/\e<=g) ?_ ?_
 .refine ue (oR (fo ?_));and_intros;refine yh (λh1=>?_) (λh1=>?_)
  .and_intros;refine yh (λh2=>?_) (λh2=>?_)
   .and_intros;refine zv (λh3=>?_) (λh3=>?_)
    .and_intros;have h3:decide (e<=g)=false:=by simpa using h3
     simp only[h1,h2,h3,z48,z46]at q;exact q
    .and_intros;have h3:e<=g:=by simpa using h3
     exact⟨rfl,z41 h1,z41 h2,h3⟩
   .and_intros;simp only[h1,h2,z48,z46]at q;exact q
  .and_intros;simp only[h1,z46]at q;exact q
 rintro L ⟨rfl,h1,h2,h3⟩;simp only[z39 h1,z39 h2,z39 h3,z48]at q;and_intros;refine yh (λa=>?_) (λa=>?_)
 .and_intros;rw[zZ2];refine yh (λf=>?_) (λf=>?_)
  .have o:=z41 a;have p:=z41 f;obtain⟨m,rfl⟩:∃m:Nat,n=m:=⟨n.toNat,by lia⟩;have i:m<Bs.length:=by lia
   obtain⟨ds,hn,r⟩:=oB i;and_intros;refine ixk rfl rfl (yn (j:=m) (by rw[z04,hn]<;>rfl)) ?_;and_intros;refine⟨ds,b,e,rfl,s ds (z47 hn),⟨by lia,by lia,by lia,by lia⟩,?_⟩;rw[z67,r]at q;simp only[a,f,z48]at q;exact q
  .and_intros;simp only[a,f,z48,z46]at q;exact q
 .and_intros;simp only[a,z46]at q;exact q
def fc {C:Ae}(F:FnD K mg "is_cut" za7 ["books","stay","thing"])(nb:NbT mg)(l:Cal P w K mg base "is_part" 5 (zc5 C cs)):Cal P w K mg base "is_cut" 6 (iD C cs):=by
 refine zN ["books","stay","thing","day","part"] F λ_ _ k _ _ _ _ _ Q nd hr h=>?_;obtain⟨Bs,c,g,cu,rfl,f,j,⟨ps,rfl,q⟩|⟨ps,rfl,q⟩⟩:=h
 rotate_left
 .and_intros;refine⟨_,sX _,rfl,?_⟩;and_intros;exact q
 refine yv (λL=>L=[some (.dat (zx C cs Bs)),some (.dat (.tuple [.int c,.int g])),some (.dat (.list (ps.map pD))),none,none]) ?_ ?_
 .and_intros;refine⟨_,rF _,rfl,?_⟩;and_intros;rfl
 rintro L rfl;and_intros;refine zQ (.one 4) (zW ?_);and_intros;refine zB (λi L=>∃(b:Option A) (day:Int),L=[some (.dat (zx C cs Bs)),some (.dat (.tuple [.int c,.int g])),some (.dat (.list (ps.map pD))),some (.dat (.int day)),b]/\xl Bs c g c ps=xl Bs c g day (ps.drop i)) ⟨none,c,rfl,rfl⟩ ?_ ?_
 .rintro i d L hd ⟨b,day,rfl,a⟩;rw[z04,z22]at hd;obtain⟨p,e,rfl⟩:=hd;have hi:=(zZ6.mp e).1;rw[z99 hi,show ps[i]=p from(zZ6.mp e).2,xl]at a;refine⟨_,rfl,?_⟩;and_intros;refine⟨Bs,c,g,p,rfl,f,j,?_⟩;and_intros;refine yh (λh1=>?_) (λh1=>?_)
  .have h1:ui Bs c g p=false:=by simpa using h1
   rw[h1,z46]at a;rw[a]at q;and_intros;exact q
  .have h1:ui Bs c g p=true:=by simpa using h1
   rw[h1,z48]at a;unfold pD;and_intros;refine zv (λh2=>?_) (λh2=>?_)
   .have h2:decide (p.1=day)=false:=by simpa using h2
    rw[h2,z46]at a;rw[a]at q;and_intros;exact q
   .have h2:decide (p.1=day)=true:=by simpa using h2
    rw[h2,z48]at a;and_intros;exact⟨_,_,rfl,a⟩
 .rintro L ⟨b,day,rfl,a⟩;rw[zZ2,ye0,xl]at a;rw[a]at q;and_intros;exact q
end
abbrev zv9 :An:=top 29
abbrev zR3 :An:=top 30
abbrev zN4 :An:=top 31
abbrev zN1 :An:=top 32
abbrev cV :An:=top 33
noncomputable def tr (p:Prop):Bool:=@decide p (Classical.propDecidable p)
def lj {p:Prop}(h:p):tr p=true:=by unfold tr;exact @decide_eq_true p (Classical.propDecidable p) h
def tJ {p:Prop}(h:¬p):tr p=false:=by unfold tr;exact @decide_eq_false p (Classical.propDecidable p) h
def yk {p:Prop}:tr p=true↔p:=by unfold tr;exact @decide_eq_true_iff p (Classical.propDecidable p)
def lQ (Bs:List (List Aa))(p:P3):Prop:=0<=p.2.2/\p.2.2<Bs.length/\zG p.1 p.2.1/\xt (Bs.getD p.2.2.toNat []) p.1 p.2.1=true
noncomputable def yU (Bs:List (List Aa))(ps:List P3):Int:=(ps.map λp=>coD (Bs.getD p.2.2.toNat []) p.1 p.2.1).sum
def zl4 {Bs:List (List Aa)}{c g:Int}{p:P3}(d:zG c g)(h:ui Bs c g p=true):lQ Bs p/\c<=p.1/\p.1<p.2.1/\p.2.1<=g:=by
 unfold ui at h;simp only[z36,z55]at h;obtain⟨h1,h2,h3,e,a,b⟩:=h;obtain⟨i,f,g1,g2⟩:=d;exact⟨⟨e,a,⟨by lia,by lia,by lia,by lia⟩,b⟩,h1,h2,h3⟩
theorem oj {Bs:List (List Aa)}{c g:Int}(a:zG c g):∀{ps:List P3}{day:Int},xl Bs c g day ps=true->(∀p∈ps,lQ Bs p)/\(ps.length:Int)<=g-day
 |[],day,h=>by
  unfold xl at h;have:=z41 h;exact⟨(λ_ h=>by cases h),by simp;lia⟩
 |p::ps,day,h=>by
  unfold xl at h;simp only[z36,z55]at h;obtain⟨h1,h2,h3⟩:=h;obtain⟨i1,i2,i3,d⟩:=zl4 a h1;obtain⟨b,e⟩:=oj a h3;refine⟨λq hq=>?_,by rw[z28];lia⟩;rcases zZ9.mp hq with rfl|hq
  .exact i1
  .exact b q hq
def xQ (Bs:List (List Aa))(b e x:Int):Prop:=∀ds∈Bs,∀y,coO ds b e=some y->x<=y
def vS (Bs:List (List Aa))(c g:Int)(pp:List Int):Prop:=∀i j:Nat,c+i+j<g->xQ Bs (c+i) (c+i+j+1) ((pp.drop i).take (j+1)).sum
def iz (Bs:List (List Aa))(c g x:Int)(ps:List P3)(pp:List Int):Prop:=xl Bs c g c ps=true/\x=yU Bs ps/\pp.length=(g-c).toNat/\x=pp.sum/\vS Bs c g pp
def rR (Bs:List (List Aa))(c g:Int)(x cu pa:Aa):Prop:=∃(a:Int) (ps:List P3) (pp:List Int),x=.int a/\cu=.list (ps.map pD)/\pa=.list (pp.map .int)/\iz Bs c g a ps pp
def sZ {zs ys:List Int}(h:PyData.list (zs.map .int)=.list (ys.map .int)):zs=ys:=by
 injection h with h;exact(List.map_inj_right λ_ _ h=>by injection h).mp h
def pZ {Bs:List (List Aa)}{c g x:Int}{ps:List P3}{pp:List Int}(h:rR Bs c g (.int x) (.list (ps.map pD)) (.list (pp.map .int))):iz Bs c g x ps pp:=by
 obtain⟨n,i,e,e1,d,f,h⟩:=h;cases e1;cases sZ f;injection d with d;cases(List.map_inj_right λ(a b:P3) h=>by
  obtain⟨a1,a2,k⟩:=a;obtain⟨l,j,m⟩:=b;cases h;rfl).mp d
 exact h
structure ThL (d:Aa):Prop where
 nod:d.hasDict=false
 len:∀ts,d=.list ts->ts.length<=40
 bd:∀zs:List Int,d=.list (zs.map .int)->∀n∈zs,-300000000000000000<=n/\n<=300000000000000000
def ThC (d:Aa):Prop:=∃ps:List P3,ps.length<=40/\(d=.list (ps.map pD)\/d=.tuple (ps.map pD))
noncomputable def wsB :Aa->Bool
 |.list ts=>ts.all xi
 |_=>false
def cc (zs:List Int):wsB (.list (zs.map .int))=true:=by
 show(zs.map PyData.int).all xi=true;rw[yd7,z79];intro _ _;rfl
def zI4 (x:Aa):(∃z,x=.int z)\/(xi x=false/\∀z,x≠.int z):=by cases x<;>first|exact .inl ⟨_,rfl⟩|exact .inr ⟨rfl,λ_ h=>by cases h⟩
theorem dX :∀{ts:List Aa},ts.all xi=true->∃zs:List Int,ts=zs.map .int
 |[],_=>⟨[],rfl⟩
 |t::r,e=>by
  rw[ye4,z36]at e;obtain⟨zs,h⟩:=dX e.2;rcases zI4 t with⟨z,rfl⟩|⟨h1,_⟩
  .exact⟨z::zs,by rw[h];rfl⟩
  .rw[h1]at e;cases e.1
theorem zk2 (d:Aa):(∃zs:List Int,d=.list (zs.map .int))\/(wsB d=false/\∀zs:List Int,d≠.list (zs.map .int)):=by
 cases e:wsB d with
 |false=>exact .inr ⟨rfl,λzs h=>by rw[h,cc]at e;cases e⟩
 |true=>
  cases d with
  |list ts=>
   obtain⟨zs,rfl⟩:=dX (ts:=ts) e;exact .inl ⟨zs,rfl⟩
  |_=>cases e
theorem xZ {ts:List Aa}(h:PyData.hasDictAll ts=false):∀d∈ts,d.hasDict=false:=by
 induction ts with
 |nil=>intro d hd;cases hd
 |cons t r a=>
  simp only[PyData.hasDictAll,Bool.or_eq_false_iff]at h;intro d hd;rcases zZ9.mp hd with rfl|hd
  .exact h.1
  .exact a h.2 d hd
def ff :Ph:=λas Q=>∃d,as=[.dat d]/\d.hasDict=false/\Q (.dat (.bool (xi d)))
def zP5 (C:Ae)(cs:Cs):Ph:=λas Q=>∃(Bs:List (List Aa)) (ps:List P3),as=[.dat (zx C cs Bs),.dat (.list (ps.map pD))]/\zI Bs/\(∀p∈ps,lQ Bs p)/\ps.length<=20/\Q (.dat (.int (yU Bs ps)))
def mM :Ph:=λas Q=>∃d,as=[.dat d]/\d.hasDict=false/\(∀ts,d=.list ts->ts.length<=40)/\Q (.dat (.bool (wsB d)))
def zy3 (C:Ae)(cs:Cs):Ph:=λas Q=>∃(Bs:List (List Aa)) (b e x:Int),as=[.dat (zx C cs Bs),.dat (.tuple [.int b,.int e]),.dat (.int x)]/\zI Bs/\Bs.length<=8/\zG b e/\Q (.dat (.bool (tr (xQ Bs b e x))))
def zw3 (C:Ae)(cs:Cs):Ph:=λas Q=>∃(Bs:List (List Aa)) (c g:Int) (pp:List Int),as=[.dat (zx C cs Bs),.dat (.tuple [.int c,.int g]),.dat (.list (pp.map .int))]/\zI Bs/\Bs.length<=8/\zG c g/\pp.length=(g-c).toNat/\Q (.dat (.bool (tr (vS Bs c g pp))))
def iy (C:Ae)(cs:Cs):Ph:=λas Q=>∃(Bs:List (List Aa)) (c g:Int) (x cu pa:Aa),as=[.dat (zx C cs Bs),.dat (.tuple [.int c,.int g]),.dat x,.dat cu,.dat pa]/\zI Bs/\Bs.length<=8/\zG c g/\x.hasDict=false/\ThC cu/\ThL pa/\Q (.dat (.bool (tr (rR Bs c g x cu pa))))
section
variable {P:Ag}{w:Ai}{K:Ac}{mg:Str->Option Ab}{base:Ao}{cs:Cs}
def zB8 {C:Ae}(F:FnD K mg "cut_coins" zv9 ["books","cut"])(nb:NbT mg)(l:Cal P w K mg base "cost" 6 (oM C cs)):Cal P w K mg base "cut_coins" 7 (zP5 C cs):=by
 refine zN ["books","cut"] F λ_ _ _ _ _ _ _ _ Q nd hr h=>?_;obtain⟨Bs,ps,rfl,g,pin,pl,q⟩:=h;refine yH (jm 15000000000000 rfl (by rfl) nb.sum (EvL.d (yS ["part","books"] [none,some 0] (.one 0) (zW ?_))));and_intros;refine⟨by rw[zZ2];lia,?_⟩;have get:∀p∈ps,∃ds,Bs[p.2.2.toNat]?=some ds/\Bs.getD p.2.2.toNat []=ds/\zw ds:=λp c=>by
  obtain⟨h1,h2,_⟩:=pin p c;obtain⟨ds,a,b⟩:=oB (Bs:=Bs) (n:=p.2.2.toNat) (by lia);exact⟨ds,a,b,g ds (z47 a)⟩
 refine zV (λp=>.int (coD (Bs.getD p.2.2.toNat []) p.1 p.2.1)) (λp c=>⟨_,rfl,λ_ _ _ _ _ k=>?_⟩) ?_
 .obtain⟨ds,a,b,f⟩:=get p c;obtain⟨h1,h2,h3,e⟩:=pin p c;rw[b]at k e;unfold pD;and_intros;refine ixk rfl rfl (i:=p.2.2) (by rw[show p.2.2=((p.2.2.toNat:Nat):Int) by lia];exact yn (j:=p.2.2.toNat) (by rw[z04,a]<;>rfl)) ?_;and_intros;exact⟨ds,p.1,p.2.1,rfl,f,h3,e,k⟩
 rw[z51,show ps.map (λp=>PyData.int (coD (Bs.getD p.2.2.toNat []) p.1 p.2.1))=(ps.map λp=>coD (Bs.getD p.2.2.toNat []) p.1 p.2.1).map .int by rw[z53]<;>rfl];refine⟨_,rfl,λn hn=>?_,by rw[zZ2];lia,?_⟩
 .obtain⟨p,c,rfl⟩:=z33.mp hn;obtain⟨ds,a,b,f⟩:=get p c;obtain⟨h1,h2,h3,e⟩:=pin p c;rw[b]at e;have:=lO f h3 e;rw[b]
  lia
 .exact q
theorem zC1 (F:FnD K mg "is_whole" kL ["thing"])(nb:NbT mg):Cal P w K mg base "is_whole" 1 ff:=by
 refine zN ["thing"] F λ_ _ _ _ _ _ _ _ Q nd hr h=>?_;obtain⟨d,rfl,nd,q⟩:=h;rw[qF]at q;and_intros;refine⟨_,nd,rfl,?_⟩;cases h1:isInt d with
 |false=>rw[h1]at q;and_intros;exact q
 |true=>
  rw[h1]at q;and_intros;refine⟨_,nd,rfl,?_⟩;and_intros;exact q
theorem zm3 (F:FnD K mg "is_list_of_wholes" zR3 ["thing"])(nb:NbT mg)(b:Cal P w K mg base "is_whole" 1 ff):Cal P w K mg base "is_list_of_wholes" 2 mM:=by
 refine zN ["thing"] F λ_ _ _ _ _ _ _ _ Q a hr h=>?_;obtain⟨d,rfl,nd,len,q⟩:=h;and_intros;refine⟨_,nd,rfl,?_⟩;cases hl:isList d with
 |false=>
  rw[show wsB d=false by cases d<;>first|rfl|cases hl]at q;and_intros;exact q
 |true=>
  obtain⟨ts,rfl⟩:∃ts,d=.list ts:=by cases d<;>first|exact⟨_,rfl⟩|cases hl
  have hn:∀d∈ts,d.hasDict=false:=xZ (by simpa[PyData.hasDict]using nd);and_intros;refine sP rfl (by rfl) nb.all (EvL.d (yS ["number"] [none] (.one 0) (zW ?_)));and_intros;refine⟨z05 (len ts rfl) (by decide),?_⟩;refine cast (congrArg (λz=>xp _ _ _ _ _ z _ _) (List.map_id' ts)) ?_;refine zV (l:=ts) (g:=λd=>d) (λd=>.bool (xi d)) (λd hd=>⟨_,rfl,λ_ _ _ _ _ k=>?_⟩) ?_
  .and_intros;exact⟨hn d hd,k⟩
  rw[z51,show ts.map (λd=>PyData.bool (xi d))=(ts.map xi).map .bool by rw[z53];rfl];and_intros;rw[yd7];exact q
noncomputable def zm0 {C:Ae}(F:FnD K mg "costs_no_less" zN4 ["books","stay","coins"])(nb:NbT mg)(f:Cal P w K mg base "cost_or_none" 6 (aD C cs)):Cal P w K mg base "costs_no_less" 7 (zy3 C cs):=by
 refine zN ["books","stay","coins","told"] F λ_ _ _ _ _ _ _ _ Q nd hr h=>?_;obtain⟨Bs,b,e,x,rfl,a,bl,c,q⟩:=h;refine zc4 3 ["book","stay"] [none,some 1] (.one 0) (zW ?_);and_intros;refine⟨by rw[zZ2];lia,?_⟩;refine zV (λds=>oD (coO ds b e)) (λds hd=>⟨_,rfl,λ_ _ _ _ _ k=>?_⟩) ?_
 .and_intros;exact⟨ds,b,e,rfl,a ds hd,c,k⟩
 rw[z51];refine qf 3 rfl ?_;refine yH (sP rfl (by rfl) nb.all (EvL.d (yS ["other","coins"] [none,some 2] (.one 0) (zW ?_))));and_intros;refine⟨by rw[zZ2];lia,?_⟩;refine zV (λds=>.bool (match coO ds b e with|none=>true|some y=>decide (x<=y))) (λds hd=>⟨_,rfl,λ_ _ _ _ _ k=>?_⟩) ?_
 .cases hx:coO ds b e with
  |none=>
   rw[hx]at k;and_intros;exact k
  |some y=>
   rw[hx]at k;and_intros;exact k
 rw[z51,show Bs.map (λds=>PyData.bool (match coO ds b e with|none=>true|some y=>decide (x<=y)))=(Bs.map λds=>(match coO ds b e with|none=>true|some y=>decide (x<=y))).map .bool by rw[z53]<;>rfl];and_intros;have:(Bs.map λds=>(match coO ds b e with|none=>true|some y=>decide (x<=y))).all id=tr (xQ Bs b e x):=by
  rw[z61,yk,yd7,z79];unfold xQ;refine forall_congr' λds=>forall_congr' λ_=>?_;simp only[Function.comp,id];cases coO ds b e with
  |none=>simp
  |some y=>simp
 rw[this];exact q
def za5 {pp:List Int}{i:Nat}(h:i<pp.length):(pp.take (i+1)).sum=(pp.take i).sum+pp.getD i 0:=by
 rw[z75,zZ5 h,List.sum_append,z00,zZ5 h];simp
def zm7 {C:Ae}(F:FnD K mg "no_part_costs_less" zN1 ["books","stay","paper"])(nb:NbT mg)(G:Cal P w K mg base "costs_no_less" 7 (zy3 C cs)):Cal P w K mg base "no_part_costs_less" 8 (zw3 C cs):=by
 refine zN ["books","stay","paper","begin","coins","night"] F λ_ _ H _ _ _ _ _ Q nd hr h=>?_;obtain⟨Bs,c,g,pp,rfl,D,bl,⟨E,I,g1,g2⟩,pl,q⟩:=h;refine zQ (.one 3) (yJ (by rfl) nb.range ?_);and_intros;refine⟨⟨by lia,by lia,by lia,by lia⟩,?_⟩;refine zB (λi L=>∃t o l:Option A,L=[some (.dat (zx C cs Bs)),some (.dat (.tuple [.int c,.int g])),some (.dat (.list (pp.map .int))),t,o,l]/\∀b j:Nat,b<i->c+b+j<g->xQ Bs (c+b) (c+b+j+1) ((pp.drop b).take (j+1)).sum) ⟨none,none,none,rfl,λb j h=>by lia⟩ ?_ ?_
 .rintro i d L hd ⟨t,o,l,rfl,f⟩;rw[z04,z22]at hd;obtain⟨u,r,rfl⟩:=hd;have hi:=(zZ6.mp r).1;rw[zb]at hi;rw[zE hi]at r;cases r;refine⟨_,rfl,?_⟩;and_intros;refine zQ (.one 5) (yJ (by rfl) nb.range ?_);and_intros;refine⟨⟨by lia,by lia,by lia,by lia⟩,?_⟩;refine zB (λj L=>∃l:Option A,L=[some (.dat (zx C cs Bs)),some (.dat (.tuple [.int c,.int g])),some (.dat (.list (pp.map .int))),some (.dat (.int (c+(i:Int)))),some (.dat (.int ((pp.drop i).take j).sum)),l]/\∀a:Nat,a<j->xQ Bs (c+i) (c+i+a+1) ((pp.drop i).take (a+1)).sum) ⟨l,by simp,λa h=>by lia⟩ ?_ ?_
  .rintro j d L hd ⟨l,rfl,k⟩;rw[z04,z22]at hd;obtain⟨v,s,rfl⟩:=hd;have x:=(zZ6.mp s).1;rw[zb]at x;rw[zE x]at s;cases s;have n:i+j<pp.length:=by lia
   refine⟨_,rfl,?_⟩;and_intros;refine ixk rfl rfl (i:=c+(i:Int)+(j:Int)-c) (by rw[show c+(i:Int)+(j:Int)-c=((i+j:Nat):Int) by lia];exact yn (j:=i+j) (by rw[z04,zZ5 n]<;>rfl)) ?_;and_intros;have y:((pp.drop i).take j).sum+pp[i+j]=((pp.drop i).take (j+1)).sum:=by
    rw[za5 (by rw[z88];lia),z00,yk1,zZ5 n];rfl
   rw[y];refine⟨Bs,c+i,c+i+j+1,_,rfl,D,bl,⟨by lia,by lia,by lia,by lia⟩,?_⟩;and_intros;refine zv (λh=>?_) (λh=>?_)
   .have h:tr (xQ Bs (c+i) (c+i+j+1) ((pp.drop i).take (j+1)).sum)=false:=by simpa using h
    rw[tJ (p:=vS Bs c g pp) λz=>by rw[lj (z i j (by lia))]at h;cases h]at q;and_intros;exact q
   .have h:tr (xQ Bs (c+i) (c+i+j+1) ((pp.drop i).take (j+1)).sum)=true:=by simpa using h
    and_intros;intro a m;by_cases e:a=j
    .subst e;exact yk.mp h
    .exact k a (by lia)
  .rintro L ⟨l,rfl,k⟩;rw[zZ2,zb]at k;and_intros;refine⟨_,_,_,rfl,λb a B m=>?_⟩;by_cases e:b=i
   .subst e;exact k a (by lia)
   .exact f b a (by lia) m
 .rintro L ⟨t,o,l,rfl,f⟩;rw[zZ2,zb]at f;rw[lj (p:=vS Bs c g pp) λi j h=>f i j (by lia) h]at q;and_intros;exact q
def eA {C:Ae}(F:FnD K mg "is_had" cV ["books","stay","coins","cut","paper"])(nb:NbT mg)(t:Cal P w K mg base "is_whole" 1 ff)(u:Cal P w K mg base "is_cut" 6 (iD C cs))(s:Cal P w K mg base "cut_coins" 7 (zP5 C cs))(p:Cal P w K mg base "is_list_of_wholes" 2 mM)(r:Cal P w K mg base "no_part_costs_less" 8 (zw3 C cs)):Cal P w K mg base "is_had" 9 (iy C cs):=by
 refine zN ["books","stay","coins","cut","paper"] F λ_ _ _ _ _ _ _ _ Q nd hr h=>?_;obtain⟨Bs,c,g,x,cu,pa,rfl,d,bl,b,nx,l,tp,q⟩:=h;obtain⟨o,v,g1,g2⟩:=id b;have no:¬rR Bs c g x cu pa->Q (.dat (.bool false)):=λz=>by rw[tJ z]at q;exact q
 rcases zI4 x with⟨x,rfl⟩|⟨e,ne⟩
 rotate_left
 .and_intros;refine⟨nx,?_⟩;rw[e];and_intros;exact no λ⟨z,_,_,h,_⟩=>ne z h
 obtain⟨ps,pl,rfl|rfl⟩:=l
 rotate_left
 .and_intros;refine⟨Bs,c,g,_,rfl,d,b,.inr ⟨ps,rfl,?_⟩⟩;and_intros;exact no λ⟨_,_,_,_,h,_⟩=>by cases h
 have f:∀pp:List Int,pa=.list (pp.map .int)->¬iz Bs c g x ps pp->Q (.dat (.bool false)):=λpp e z=>no λy=>z (pZ (e▸y));have i:=λpp:List Int=>pZ (Bs:=Bs) (c:=c) (g:=g) (x:=x) (ps:=ps) (pp:=pp);refine yv (λL=>L=[some (.dat (zx C cs Bs)),some (.dat (.tuple [.int c,.int g])),some (.dat (.int x)),some (.dat (.list (ps.map pD))),some (.dat pa)]/\xl Bs c g c ps=true/\x=yU Bs ps) ?_ ?_
 .and_intros;refine⟨Bs,c,g,_,rfl,d,b,.inl ⟨ps,rfl,?_⟩⟩;and_intros;refine yh (λh=>?_) (λh=>?_)
  .have h:xl Bs c g c ps=false:=by simpa using h
   and_intros;refine no λy=>?_;obtain⟨_,_,pp,_,_,rfl,_⟩:=id y;have:=(i _ y).1;rw[h]at this;cases this
  .have h:xl Bs c g c ps=true:=by simpa using h
   obtain⟨h1,h2⟩:=oj b h;and_intros;refine⟨Bs,ps,rfl,d,h1,by lia,?_⟩;and_intros;refine zv (λh3=>?_) (λh3=>?_)
   .have h3:¬x=yU Bs ps:=by
     have a:(!PyData.eqv (.int x) (.int (yU Bs ps)))=true:=h3;rw[xJ]at a;simpa using a
    and_intros;refine no λy=>h3 ?_;obtain⟨_,_,pp,_,_,rfl,_⟩:=id y;exact(i _ y).2.1
   .have h3:x=yU Bs ps:=by
     have a:(!PyData.eqv (.int x) (.int (yU Bs ps)))=false:=h3;rw[xJ]at a;simpa using a
    and_intros;exact⟨rfl,h,h3⟩
 rintro L ⟨rfl,k,n⟩;rcases zk2 pa with⟨pp,rfl⟩|⟨e,ne⟩
 rotate_left
 .and_intros;refine⟨tp.nod,tp.len,?_⟩;rw[e];and_intros;exact no λ⟨_,_,pp,_,_,h,_⟩=>ne pp h
 have no:¬iz Bs c g x ps pp->Q (.dat (.bool false)):=f pp rfl;refine yv (λL=>L=[some (.dat (zx C cs Bs)),some (.dat (.tuple [.int c,.int g])),some (.dat (.int x)),some (.dat (.list (ps.map pD))),some (.dat (.list (pp.map .int)))]/\pp.length=(g-c).toNat/\x=pp.sum) ?_ ?_
 .and_intros;refine⟨tp.nod,tp.len,?_⟩;rw[cc];and_intros;rw[zZ2];refine yh (λh=>?_) (λh=>?_)
  .have h:¬((pp.length:Nat):Int)=g-c:=by simpa using h
   and_intros;exact no λz=>by have:=z.2.2.1;lia
  .have h:((pp.length:Nat):Int)=g-c:=by simpa using h
   and_intros;refine oq rfl (by rfl) nb.sum ?_;and_intros;refine⟨tp.bd pp rfl,by lia,?_⟩;and_intros;refine zv (λh3=>?_) (λh3=>?_)
   .have h3:¬x=pp.sum:=by simpa using h3
    and_intros;exact no λz=>h3 z.2.2.2.1
   .have h3:x=pp.sum:=by simpa using h3
    and_intros;exact⟨rfl,by lia,h3⟩
 rintro L ⟨rfl,j,m⟩;and_intros;refine⟨Bs,c,g,pp,rfl,d,bl,b,j,?_⟩;rw[show tr (vS Bs c g pp)=tr (rR Bs c g (.int x) (.list (ps.map pD)) (.list (pp.map .int))) by rw[z61,yk,yk];exact⟨λz=>⟨x,ps,pp,rfl,rfl,rfl,k,n,j,m,z⟩,λz=>(i pp z).2.2.2.2⟩];exact q
end
abbrev bh :An:=top 34
abbrev hV :An:=top 35
abbrev dh :An:=top 36
abbrev zv1 :An:=top 37
def uA (Bs:List (List Aa))(d g:Int)(ds:List Int):Prop:=∃e n,d<e/\e<=g/\¬e∈ds/\n<Bs.length/\(coB Bs n d e).isSome=true
def wO (ds:List Int)(c:Int):Prop:=(∃r,ds=c::r)/\ds.Pairwise (·<·)
def uk (Bs:List (List Aa))(c g:Int)(ds:List Int):Prop:=wO ds c/\(∀d∈ds,d<g)/\∀d∈ds,¬uA Bs d g ds
def iN (C:Ae)(cs:Cs):Ph:=λas Q=>∃(Bs:List (List Aa)) (d g:Int) (ds:List Int),as=[.dat (zx C cs Bs),.dat (.int d),.dat (.int g),.dat (.list (ds.map .int))]/\zI Bs/\Bs.length<=8/\zG d g/\Q (.dat (.bool (tr (uA Bs d g ds))))
def lg :Ph:=λas Q=>∃(ds:List Int) (c:Int),as=[.dat (.list (ds.map .int)),.dat (.int c)]/\ds.length<=1000/\Q (.dat (.bool (tr (wO ds c))))
def aX (Bs:List (List Aa))(c g:Int)(da:Aa):Prop:=∃ds:List Int,da=.list (ds.map .int)/\uk Bs c g ds
def Let (Bs:List (List Aa))(c g:Int)(d:Aa):Prop:=(∃x cu pa,d=.tuple [.str "had",x,cu,pa]/\rR Bs c g x cu pa)\/∃da,d=.tuple [.str "off",da]/\aX Bs c g da
def jD (C:Ae)(cs:Cs):Ph:=λas Q=>∃(Bs:List (List Aa)) (c g:Int) (da:Aa),as=[.dat (zx C cs Bs),.dat (.tuple [.int c,.int g]),.dat da]/\zI Bs/\Bs.length<=8/\zG c g/\ThL da/\Q (.dat (.bool (tr (aX Bs c g da))))
structure ThB (d:Aa):Prop where
 nod:d.hasDict=false
 fst:∀a r,d=.tuple (a::r)->SeqAt.shaped a=true
 had:∀s x cu pa,d=.tuple [s,x,cu,pa]->ThC cu/\ThL pa
 off:∀s da,d=.tuple [s,da]->ThL da
def cn (C:Ae)(cs:Cs):Ph:=λas Q=>∃(Bs:List (List Aa)) (c g:Int) (d:Aa),as=[.dat (zx C cs Bs),.dat (.tuple [.int c,.int g]),.dat d]/\zI Bs/\Bs.length<=8/\zG c g/\ThB d/\Q (.dat (.bool (tr (Let Bs c g d))))
theorem zT3 (a:Aa)(s:Str):(a=.str s/\PyData.eqv a (.str s)=true)\/(a≠.str s/\PyData.eqv a (.str s)=false):=by
 cases a with
 |str t=>
  rw[zr4];by_cases h:t=s
  .exact .inl ⟨by rw[h],z39 h⟩
  .exact .inr ⟨λz=>h (by injection z),z38 h⟩
 |_=>exact .inr ⟨(λz=>by cases z),rfl⟩
def oU {a:Aa}{r:List Aa}(h:(PyData.tuple (a::r)).hasDict=false):a.hasDict=false:=by
 rw[PyData.hasDict]at h;exact xZ h a z03
noncomputable def adj :List Int->List (Int×Int)
 |a::b::r=>(a,b)::adj (b::r)
 |_=>[]
def zj9 :∀ds:List Int,fj (L2.cutD (ds.map PyData.int) none (some (-1))) (L2.cutD (ds.map PyData.int) (some 1) none)=(adj ds).map λp=>.tuple [.int p.1,.int p.2]:=by
 have key:∀ds:List Int,List.zipWith (λd e=>PyData.tuple [d,e]) ((ds.map PyData.int).take ((ds.map PyData.int).length-1)) ((ds.map PyData.int).drop 1)=(adj ds).map λp=>.tuple [.int p.1,.int p.2]:=by
  intro ds
  induction ds with
  |nil=>rfl
  |cons a r c=>
   cases r with
   |nil=>rfl
   |cons b r=>
    have e:(List.map PyData.int (a::b::r)).length-1=(List.map PyData.int (b::r)).length-1+1:=by simp
    rw[e];show PyData.tuple [.int a,.int b]::List.zipWith _ (List.take _ (List.map PyData.int (b::r))) (List.drop 1 (List.map PyData.int (b::r)))=_;rw[c];rfl
 intro ds;rw[nM,uX _ (by decide)];exact key ds
theorem jn :∀ds:List Int,(adj ds).length<=ds.length
 |[]=>zZ8 _
 |[_]=>z21 _
 |a::b::r=>by
  have:=jn (b::r);simp only[adj,z28]at this ⊢
  lia
theorem rW :∀ds:List Int,((adj ds).all λp=>decide (p.1<p.2))=true↔ds.Pairwise (·<·)
 |[]=>by simp[adj]
 |[a]=>by simp[adj]
 |a::b::r=>by
  have d:=rW (b::r);simp only[adj,ye4,z36,z55,d]
  constructor
  .rintro⟨h1,h2⟩;refine z74.mpr ⟨λx c=>?_,h2⟩;rcases zZ9.mp c with rfl|c
   .exact h1
   .have:=(z74.mp h2).1 x c
    lia
  .intro h;exact⟨(z74.mp h).1 b z03,(z74.mp h).2⟩
def uq (ds:List Int):(ds.map PyData.int).all sT=true:=by
 rw[yd7,z79];intro z _;rfl
theorem qG {z:Int}:∀{ds:List Int},inD (.int z) (ds.map .int)=decide (z∈ds)
 |[]=>rfl
 |d::ds=>by
  have a:=qG (z:=z) (ds:=ds);rw[z27];unfold inD at a ⊢;rw[z97,a];by_cases h:z=d
  .subst h;simp[scV,eqV]
  .simp[scV,eqV,h,z42 h]
section
variable {P:Ag}{w:Ai}{K:Ac}{mg:Str->Option Ab}{base:Ao}{cs:Cs}
def gN {C:Ae}(F:FnD K mg "leads_out" bh ["books","day","go","days"])(nb:NbT mg)(B:Cal P w K mg base "can_be_had" 4 (rV C cs)):Cal P w K mg base "leads_out" 5 (iN C cs):=by
 refine zN ["books","day","go","days","other"] F λ_ _ G _ _ _ _ _ Q nd hr h=>?_;obtain⟨Bs,d,g,ds,rfl,v,bl,⟨D,H,g1,g2⟩,q⟩:=h;refine zQ (.one 4) (yJ (by rfl) nb.range ?_);and_intros;refine⟨⟨by lia,by lia,by lia,by lia⟩,?_⟩;refine zB (λi L=>∃o:Option A,L=[some (.dat (zx C cs Bs)),some (.dat (.int d)),some (.dat (.int g)),some (.dat (.list (ds.map .int))),o]/\∀a n:Nat,a<i->¬d+1+a∈ds->n<Bs.length->(coB Bs n d (d+1+a)).isSome=false) ⟨none,rfl,λa n h=>by lia⟩ ?_ ?_
 .rintro i x L s ⟨o,rfl,c⟩;rw[z04,z22]at s;obtain⟨u,r,rfl⟩:=s;have hi:=(zZ6.mp r).1;rw[zb]at hi;rw[zE hi]at r;cases r;have j:zG d (d+1+(i:Int)):=⟨by lia,by lia,by lia,by lia⟩;refine⟨_,rfl,?_⟩;and_intros;refine ink rfl (uq _) ?_;rw[qG];refine yh (λh=>?_) (λh=>?_)
  .have h:¬d+1+(i:Int)∈ds:=by simpa using h
   refine pY (rA (zd2 rfl (by rfl) nb.any (EvL.d (yS ["book","day","other"] [none,some 1,some 4] (.one 0) (zW ?_)))));and_intros;refine⟨by rw[zZ2];lia,?_⟩;refine zV (λb=>.bool (xt b d (d+1+(i:Int)))) (λb hb=>⟨_,rfl,λ_ _ _ _ _ k=>?_⟩) ?_
   .and_intros;exact⟨b,d,d+1+(i:Int),rfl,v b hb,j,k⟩
   rw[z51,show Bs.map (λb=>PyData.bool (xt b d (d+1+(i:Int))))=(Bs.map λb=>xt b d (d+1+(i:Int))).map .bool by rw[z53]<;>rfl];and_intros;refine zv (λh2=>?_) (λh2=>?_)
   .rw[yj5,yh5]at h2;obtain⟨b,hb,m⟩:=h2;have m:xt b d (d+1+(i:Int))=true:=m;obtain⟨n,hn,rfl⟩:=ye2.mp hb;rw[lj (p:=uA Bs d g ds) ⟨d+1+i,n,by lia,by lia,h,hn,by rw[vn (zZ5 hn) j,coO,if_pos m]<;>rfl⟩]at q;and_intros;exact q
   .and_intros;intro a n l f hn;by_cases e:a=i
    .subst e;rw[yj5,yg3]at h2;have:¬xt Bs[n] d (d+1+(a:Int))=true:=h2 _ (z69 hn);rw[vn (zZ5 hn) j,coO,if_neg this];rfl
    .exact c a n (by lia) f hn
  .have h:d+1+(i:Int)∈ds:=by simpa using h
   and_intros;intro a n l f hn;by_cases e:a=i
   .subst e;exact absurd h f
   .exact c a n (by lia) f hn
 .rintro L ⟨o,rfl,c⟩;rw[zZ2,zb]at c;rw[tJ (p:=uA Bs d g ds) λ⟨e,n,e1,E,y,t,z⟩=>by
   have:=c (e-d-1).toNat n (by lia) (by rw[show d+1+((e-d-1).toNat:Int)=e by lia];exact y) t;rw[show d+1+((e-d-1).toNat:Int)=e by lia,z]at this;cases this]at q
  and_intros;exact q
theorem kH (F:FnD K mg "is_rising_from" hV ["days","first"])(nb:NbT mg):Cal P w K mg base "is_rising_from" 1 lg:=by
 refine zN ["days","first"] F λ_ _ _ _ _ _ _ _ Q nd hr h=>?_;obtain⟨ds,c,rfl,dl,q⟩:=h;and_intros;refine eqk (shaped_ints _).1 rfl (uM _) rfl ?_;rw[js,isEmpty_map];cases ds with
 |nil=>
  rw[tJ (p:=wO [] c) λ⟨⟨r,h⟩,_⟩=>by cases h]at q;and_intros;exact q
 |cons d r=>
  and_intros;refine ixk rfl rfl (yn (j:=0) rfl) ?_;and_intros;refine yh (λh=>?_) (λh=>?_)
  .have h:d=c:=z41 h;subst h;refine aG (sP rfl (by rfl) nb.all (EvL.d (yS ["lower","higher"] [none,none] (.many [0,1]) (ag (by rfl) nb.zip ?_))));and_intros;rw[zj9];refine⟨by rw[zZ2];exact z05 (jn _) dl,?_⟩;refine zV (λp=>.bool (decide (p.1<p.2))) (λp b=>⟨_,rfl,λ_ _ _ _ _ k=>?_⟩) ?_
   .and_intros;exact k
   rw[z51,show(adj (d::r)).map (λp=>PyData.bool (decide (p.1<p.2)))=((adj (d::r)).map λp=>decide (p.1<p.2)).map .bool by rw[z53]<;>rfl];and_intros;rw[show((adj (d::r)).map λp=>decide (p.1<p.2)).all id=tr (wO (d::r) d) by
    rw[z61,yk,yd7];exact⟨λz=>⟨⟨r,rfl⟩,(rW _).mp z⟩,λz=>(rW _).mpr z.2⟩]
   exact q
  .have h:¬d=c:=yc9 h;rw[tJ (p:=wO (d::r) c) λ⟨⟨a,e⟩,_⟩=>by injection e with e;exact h e]at q;exact q
def gj {C:Ae}(F:FnD K mg "is_off" dh ["books","stay","days"])(nb:NbT mg)(x:Cal P w K mg base "is_list_of_wholes" 2 mM)(CR:Cal P w K mg base "is_rising_from" 1 lg)(o:Cal P w K mg base "leads_out" 5 (iN C cs)):Cal P w K mg base "is_off" 6 (jD C cs):=by
 refine zN ["books","stay","days"] F λ_ _ _ _ _ _ _ _ Q nd hr h=>?_;obtain⟨Bs,c,g,da,rfl,s,bl,t,b,q⟩:=h;rcases zk2 da with⟨ds,rfl⟩|⟨e,ne⟩
 rotate_left
 .rw[tJ (p:=aX Bs c g da) λ⟨ds,h,_⟩=>ne ds h]at q;and_intros;refine⟨b.nod,b.len,?_⟩;rw[e];and_intros;exact q
 have dl:ds.length<=1000:=by have:=b.len _ rfl;rw[zZ2]at this;lia
 rw[show tr (aX Bs c g (.list (ds.map .int)))=tr (uk Bs c g ds) by rw[z61,yk,yk];exact⟨λ⟨u,e,h⟩=>by cases sZ e;exact h,λh=>⟨ds,rfl,h⟩⟩]at q;obtain⟨v,y,g1,g2⟩:=id t;refine yv (λL=>L=[some (.dat (zx C cs Bs)),some (.dat (.tuple [.int c,.int g])),some (.dat (.list (ds.map .int)))]/\wO ds c/\∀d∈ds,d<g) ?_ ?_
 .and_intros;refine⟨b.nod,b.len,?_⟩;rw[cc];and_intros;refine⟨ds,c,rfl,dl,?_⟩;and_intros;refine yh (λh=>?_) (λh=>?_)
  .have h:tr (wO ds c)=false:=by simpa using h
   rw[tJ (p:=uk Bs c g ds) λz=>by rw[lj z.1]at h;cases h]at q;and_intros;exact q
  .have h:tr (wO ds c)=true:=by simpa using h
   have j:=yk.mp h;obtain⟨⟨r,n⟩,a⟩:=id j;obtain⟨init,l,m⟩:∃init l,ds=init++[l]:=⟨ds.dropLast,ds.getLast (by rw[n];simp),(List.dropLast_concat_getLast _).symm⟩;have f:∀d∈ds,d<=l:=λd hd=>by
    rw[m]at hd a;rcases z44.mp hd with hd|hd
    .have:=(List.pairwise_append.mp a).2.2 d hd l (z06.mpr rfl)
     lia
    .rw[z06.mp hd];lia
   and_intros;refine ixk rfl rfl (i:=-1) (d:=.int l) (by rw[m,z54];exact dY _ _) ?_;and_intros;refine zv (λh2=>?_) (λh2=>?_)
   .have h2:=z41 h2;rw[tJ (p:=uk Bs c g ds) λz=>by
     have:=z.2.1 l (by rw[m];exact z43 _ (z06.mpr rfl))
     lia]at q
    and_intros;exact q
   .have h2:=yc9 h2;and_intros;exact⟨rfl,j,λd hd=>by have:=f d hd;lia⟩
 rintro L ⟨rfl,j,lt⟩;have ge:∀d∈ds,c<=d:=λd hd=>by
  obtain⟨⟨r,n⟩,a⟩:=j;rw[n]at hd a;rcases zZ9.mp hd with rfl|hd
  .lia
  .have:=(z74.mp a).1 d hd
   lia
 refine yH (cK (zd2 rfl (by rfl) nb.any (EvL.d (yS ["day","books","stay","days"] [none,some 0,some 1,some 2] (.one 0) (zW ?_)))));and_intros;refine⟨by rw[zZ2];exact dl,?_⟩;refine zV (λd=>.bool (tr (uA Bs d g ds))) (λd hd=>⟨_,rfl,λ_ _ _ _ _ k=>?_⟩) ?_
 .and_intros;have:=ge d hd;have:=lt d hd;exact⟨Bs,d,g,ds,rfl,s,bl,⟨by lia,by lia,by lia,by lia⟩,k⟩
 rw[z51,show ds.map (λd=>PyData.bool (tr (uA Bs d g ds)))=(ds.map λd=>tr (uA Bs d g ds)).map .bool by rw[z53]<;>rfl];and_intros;rw[show(!(ds.map λd=>tr (uA Bs d g ds)).any id)=tr (uk Bs c g ds) by
  rw[z61,yk,yg5,yj5,yg3];exact⟨λz=>⟨j,lt,λd hd f=>z d hd (lj f)⟩,λz d hd f=>z.2.2 d hd (yk.mp f)⟩]
 exact q
theorem zb7 {C:Ae}(F:FnD K mg "lets_by" zv1 ["books","stay","thing"])(nb:NbT mg)(m:Cal P w K mg base "is_had" 9 (iy C cs))(n:Cal P w K mg base "is_off" 6 (jD C cs)):Cal P w K mg base "lets_by" 10 (cn C cs):=by
 refine zN ["books","stay","thing"] F λ_ _ _ _ _ _ _ _ Q nd hr h=>?_;obtain⟨Bs,c,g,d,rfl,i,bl,j,b,q⟩:=h;have no:¬Let Bs c g d->Q (.dat (.bool false)):=λz=>by rw[tJ z]at q;exact q
 and_intros;refine⟨_,b.nod,rfl,?_⟩;cases ht:pW d with
 |false=>
  and_intros;exact no (by rintro(⟨_,_,_,rfl,_⟩|⟨_,rfl,_⟩)<;>cases ht)
 |true=>
  obtain⟨ts,rfl⟩:∃ts,d=.tuple ts:=by cases d<;>first|exact⟨_,rfl⟩|cases ht
  rcases ts with _|⟨a,_|⟨x,_|⟨cu,_|⟨pa,_|⟨z,r⟩⟩⟩⟩⟩
  .and_intros;exact no (by rintro(⟨_,_,_,h,_⟩|⟨_,h,_⟩)<;>cases h)
  .and_intros;exact no (by rintro(⟨_,_,_,h,_⟩|⟨_,h,_⟩)<;>cases h)
  .have f:=b.fst _ _ rfl;have na:=oU b.nod;and_intros;refine eqk f (by decide +kernel) na rfl ?_;rcases zT3 a "off" with⟨rfl,e⟩|⟨ne,e⟩
   .rw[e];and_intros;refine⟨Bs,c,g,x,rfl,i,bl,j,b.off _ _ rfl,?_⟩;rw[show tr (aX Bs c g x)=tr (Let Bs c g (.tuple [.str "off",x])) by
     rw[z61,yk,yk];exact⟨λh=>.inr ⟨x,rfl,h⟩,by rintro(⟨_,_,_,h,_⟩|⟨_,h,k⟩)<;>cases h;exact k⟩]
    exact q
   .rw[e];and_intros;exact no (by rintro(⟨_,_,_,h,_⟩|⟨_,h,k⟩)<;>cases h;exact ne rfl)
  .and_intros;exact no (by rintro(⟨_,_,_,h,_⟩|⟨_,h,_⟩)<;>cases h)
  .have f:=b.fst _ _ rfl;have na:=oU b.nod;obtain⟨l,tp⟩:=b.had _ _ _ _ rfl;have nx:x.hasDict=false:=xZ (by have:=b.nod;rwa [PyData.hasDict]at this) x (by simp);and_intros;refine eqk f (by decide +kernel) na rfl ?_;rcases zT3 a "had" with⟨rfl,e⟩|⟨ne,e⟩
   .rw[e];and_intros;refine⟨Bs,c,g,x,cu,pa,rfl,i,bl,j,nx,l,tp,?_⟩;rw[show tr (rR Bs c g x cu pa)=tr (Let Bs c g (.tuple [.str "had",x,cu,pa])) by
     rw[z61,yk,yk];exact⟨λh=>.inl ⟨x,cu,pa,rfl,h⟩,by rintro(⟨_,_,_,h,k⟩|⟨_,h,_⟩)<;>cases h;exact k⟩]
    exact q
   .rw[e];and_intros;exact no (by rintro(⟨_,_,_,h,_⟩|⟨_,h,k⟩)<;>cases h;exact ne rfl)
  .and_intros;exact no (by rintro(⟨_,_,_,h,_⟩|⟨_,h,_⟩)<;>cases h)
end
noncomputable def p3 (p:Part):P3:=(p.1,p.2.1,(p.2.2:Int))
def zu3 (ps:List Part):(ps.map p3).map pD=ps.map xE:=by rw[z53]<;>rfl
theorem zj2 {Bs:List (List Aa)}(b:zI Bs){c g:Int}{a y:Int}{ps:List Part}(h:Cut (coB Bs) Bs.length a g y ps)(ca:c<=a):xl Bs c g a (ps.map p3)=true/\yU Bs (ps.map p3)=y:=by
 induction h with
 |nil a=>exact⟨by show decide (a=a)=true;simp,rfl⟩
 |@cons a e g x y n ps h1 h2 h3 h ih=>
  obtain⟨i1,i2⟩:=ih (by lia);obtain⟨s1,s2,s3,_⟩:=vY b h2 h3;have:=h.le;refine⟨?_,?_⟩
  .show(ui Bs c g (a,e,(n:Int))&&(decide (a=a)&&xl Bs c g e (ps.map p3)))=true;rw[i1];unfold ui;simp only[z67,s2,Bool.and_true,z36,z55];exact⟨⟨by lia,by lia,by lia,by lia,by lia⟩,trivial⟩
  .unfold yU at i2 ⊢;rw[z27,z27,ye5,i2];show coD (Bs.getD ((n:Int)).toNat []) a e+y=_;rw[z67,<-s3]
def fO {Bs:List (List Aa)}{c g:Int}{pp:List Int}(a:zG c g)(h:∀n b e y,n<Bs.length->c<=b->b<e->e<=g->coB Bs n b e=some y->((pp.drop (b-c).toNat).take (e-b).toNat).sum<=y):vS Bs c g pp:=λi j d ds hd y hy=>by
 obtain⟨n,hn,rfl⟩:=ye2.mp hd;obtain⟨f,k,g1,g2⟩:=a;have:=h n (c+i) (c+i+j+1) y hn (by lia) (by lia) (by lia) (by rw[vn (zZ5 hn) ⟨by lia,by lia,by lia,by lia⟩];exact hy);rw[show(c+i-c).toNat=i by lia,show(c+i+j+1-(c+i)).toNat=j+1 by lia]at this;exact this
def bS {Bs:List (List Aa)}{c g:Int}(a:zI Bs)(b:zG c g):Let Bs c g (bestOf Bs c g):=by
 rcases rz a b with⟨x,ps,pp,h⟩|⟨ds,h⟩
 .obtain⟨f,j⟩:=zj2 a (c:=c) h.cut (z90 _);exact .inl ⟨_,_,_,h.eq,x,ps.map p3,pp,rfl,by rw[zu3],rfl,f,j.symm,h.plen,h.psum.symm,fO b h.paper⟩
 .refine .inr ⟨_,h.eq,ds,rfl,⟨h.first,h.sort⟩,λd hd=>(h.rng d hd).2,λd hd ⟨e,n,e1,m,i,l,k⟩=>i ?_⟩;obtain⟨y,hy⟩:=yf6.mp k;exact h.shut d hd e n y e1 m l hy
abbrev zM0 :An:=top 76
abbrev zT2 :An:=top 80
abbrev zt1 :An:=top 77
abbrev zy6 :An:=top 78
abbrev zf4 :An:=top 79
def aM (C:Ae)(cs:Cs):Ph:=λas Q=>∃(Bs:List (List Aa)) (c g:Int) (ps:List P3),as=[.dat (zx C cs Bs),.dat (.tuple [.int c,.int g]),.dat (.list (ps.map pD))]/\zI Bs/\zG c g/\ps.length<=1000/\Q (.dat (.bool (xl Bs c g c ps)))
def iY (Bs:List (List Aa))(c g x:Int)(pp:List Int):Prop:=pp.length=(g-c).toNat/\pp.sum=x/\vS Bs c g pp
def bf (C:Ae)(cs:Cs):Ph:=λas Q=>∃(Bs:List (List Aa)) (c g x:Int) (pp:List Int),as=[.dat (zx C cs Bs),.dat (.tuple [.int c,.int g]),.dat (.int x),.dat (.list (pp.map .int))]/\zI Bs/\zG c g/\(∀n∈pp,-300000000000000000<=n/\n<=300000000000000000)/\Q (.dat (.bool (tr (iY Bs c g x pp))))
def iZ (C:Ae)(cs:Cs):Ph:=λas Q=>∃(Bs:List (List Aa)) (c g:Int) (ds:List Int),as=[.dat (zx C cs Bs),.dat (.tuple [.int c,.int g]),.dat (.list (ds.map .int))]/\zI Bs/\Bs.length<=8/\zG c g/\ds.length<=40/\Q (.dat (.bool (tr (uk Bs c g ds))))
theorem cQ :∀ps qs:List Int,PyData.eqvAll (ps.map .int) (qs.map .int)=decide (ps=qs)
 |[],[]=>rfl
 |[],_::_=>rfl
 |_::_,[]=>rfl
 |p::ps,q::qs=>by
  simp only[z27,PyData.eqvAll,cQ ps qs,xJ];by_cases h1:p=q<;>by_cases h2:ps=qs<;>simp[h1,h2]
theorem cT (val:Nat->Int):∀n,(firstMet val n).length=n->∀i j,i<j->j<n->val i≠val j
 |0,_,i,j,_,h=>by lia
 |n+1,e,i,j,h,hn=>by
  rw[firstMet_succ]at e;unfold step_dedup at e;have:=firstMet_length_le val n;split at e
  .lia
  .rename_i z;rw[z24]at e;have b:=cT val n (by simpa using e);by_cases a:j=n
   .subst a;rw[firstMet_any]at z;exact λk=>z (yh5.mpr ⟨val i,z33.mpr ⟨i,yd0.mpr h,rfl⟩,by simpa using k⟩)
   .exact b i j h (by lia)
theorem zv5 :∀bs:List Bool,inD (.bool true) (bs.map .bool)=bs.any id
 |[]=>rfl
 |b::bs=>by
  have a:=zv5 bs;rw[z27];unfold inD at a ⊢;rw[z97,a,z97];cases b<;>rfl
section
variable {P:Ag}{w:Ai}{K:Ac}{mg:Str->Option Ab}{base:Ao}{cs:Cs}
theorem zj3 (F:FnD K mg "_law_whole" zM0 ["_law_thing"])(nb:NbT mg):Cal P w K mg base "_law_whole" 1 ff:=by
 refine zN ["_law_thing"] F λ_ _ _ _ _ _ _ _ Q nd hr h=>?_;obtain⟨d,rfl,nd,q⟩:=h;rw[qF]at q;and_intros;refine⟨_,nd,rfl,?_⟩;cases h1:isInt d with
 |false=>rw[h1]at q;and_intros;exact q
 |true=>
  rw[h1]at q;and_intros;refine⟨_,nd,rfl,?_⟩;and_intros;exact q
theorem zl5 (F:FnD K mg "_law_wholes" zT2 ["_law_thing"])(nb:NbT mg)(b:Cal P w K mg base "_law_whole" 1 ff):Cal P w K mg base "_law_wholes" 2 mM:=by
 refine zN ["_law_thing"] F λ_ _ _ _ _ _ _ _ Q a hr h=>?_;obtain⟨d,rfl,nd,len,q⟩:=h;and_intros;refine⟨_,nd,rfl,?_⟩;cases hl:isList d with
 |false=>
  rw[show wsB d=false by cases d<;>first|rfl|cases hl]at q;and_intros;exact q
 |true=>
  obtain⟨ts,rfl⟩:∃ts,d=.list ts:=by cases d<;>first|exact⟨_,rfl⟩|cases hl
  have hn:∀d∈ts,d.hasDict=false:=xZ (by simpa[PyData.hasDict]using nd);and_intros;refine sP rfl (by rfl) nb.all (EvL.d (yS ["_law_one"] [none] (.one 0) (zW ?_)));and_intros;refine⟨z05 (len ts rfl) (by decide),?_⟩;refine cast (congrArg (λz=>xp _ _ _ _ _ z _ _) (List.map_id' ts)) ?_;refine zV (l:=ts) (g:=λd=>d) (λd=>.bool (xi d)) (λd hd=>⟨_,rfl,λ_ _ _ _ _ k=>?_⟩) ?_
  .and_intros;exact⟨hn d hd,k⟩
  rw[z51,show ts.map (λd=>PyData.bool (xi d))=(ts.map xi).map .bool by rw[z53];rfl];and_intros;rw[yd7];exact q
def zb9 {C:Ae}(F:FnD K mg "_law_is_cut" zt1 ["_law_books_here","_law_stay_here","_law_cut"])(nb:NbT mg)(G:Cal P w K mg base "can_be_had" 4 (rV C cs)):Cal P w K mg base "_law_is_cut" 5 (aM C cs):=by
 refine zN ["_law_books_here","_law_stay_here","_law_cut","_law_day","_law_begin","_law_end","_law_number"] F λ_ _ I _ _ _ _ _ Q nd hr h=>?_;obtain⟨Bs,c,g,ps,rfl,B,⟨H,J,g1,g2⟩,pl,q⟩:=h;and_intros;refine zQ (.many [4,5,6]) (zW ?_);and_intros;refine zB (λi L=>∃(s r p:Option A) (day:Int),L=[some (.dat (zx C cs Bs)),some (.dat (.tuple [.int c,.int g])),some (.dat (.list (ps.map pD))),some (.dat (.int day)),s,r,p]/\c<=day/\xl Bs c g c ps=xl Bs c g day (ps.drop i)) ⟨none,none,none,c,rfl,z90 _,rfl⟩ ?_ ?_
 .rintro i d L hd ⟨s,r,p,day,rfl,cd,a⟩;rw[z04,z22]at hd;obtain⟨⟨b,e,n⟩,t,rfl⟩:=hd;have hi:=(zZ6.mp t).1;rw[z99 hi,show ps[i]=(b,e,n)from(zZ6.mp t).2,xl]at a;have a:xl Bs c g c ps=((decide (c<=b)&&(decide (b<e)&&(decide (e<=g)&&(decide (0<=n)&&(decide (n<Bs.length)&&xt (Bs.getD n.toNat []) b e)))))&&(decide (b=day)&&xl Bs c g e (ps.drop (i+1)))):=a;have no:∀x:Bool,xl Bs c g c ps=false->(x=false->Q (.dat (.bool x))):=λx h D=>by rw[D,<-h];exact q
  refine⟨_,rfl,?_⟩;and_intros;refine yh (λh1=>?_) (λh1=>?_)
  .have h1:decide (b=day)=false:=by simpa using h1
   rw[h1,z46,yd8]at a;rw[a]at q;and_intros;exact q
  have h1:b=day:=by simpa using h1
  rw[z39 (show c<=b by lia),z39 h1,z48,z48]at a;and_intros;refine yh (λh2=>?_) (λh2=>?_)
  rotate_left
  .simp only[h2,z48,z46,yd8]at a;rw[a]at q;and_intros;exact q
  and_intros;refine yh (λh3=>?_) (λh3=>?_)
  .have h3:decide (e<=g)=false:=by simpa using h3
   simp only[h2,h3,z48,z46,yd8]at a;rw[a]at q;and_intros;exact q
  have h3:decide (e<=g)=true:=by simpa using h3
  and_intros;refine yh (λl=>?_) (λl=>?_)
  rotate_left
  .simp only[h2,h3,l,z48,z46,yd8]at a;rw[a]at q;and_intros;exact q
  and_intros;rw[zZ2];refine zv (λf=>?_) (λf=>?_)
  .have f:decide (n<(Bs.length:Int))=false:=by simpa using f
   simp only[h2,h3,l,f,z48,z46,yd8]at a;rw[a]at q;and_intros;exact q
  have f:decide (n<(Bs.length:Int))=true:=by simpa using f
  have E:=z41 h2;have u:=z41 h3;have v:=z41 l;have y:=z41 f;obtain⟨m,rfl⟩:∃m:Nat,n=m:=⟨n.toNat,by lia⟩;have o:m<Bs.length:=by lia
  obtain⟨ds,hn,z⟩:=oB o;rw[z67,z]at a;and_intros;refine ixk rfl rfl (yn (j:=m) (by rw[z04,hn]<;>rfl)) ?_;and_intros;refine⟨ds,b,e,rfl,B ds (z47 hn),⟨by lia,by lia,by lia,by lia⟩,?_⟩;and_intros;refine zv (λk=>?_) (λk=>?_)
  .have k:xt ds b e=false:=by simpa using k
   simp only[h2,h3,l,f,k,z48,z46,yd8]at a;rw[a]at q;and_intros;exact q
  have k:xt ds b e=true:=by simpa using k
  simp only[h2,h3,l,f,k,z48]at a;and_intros;exact⟨_,_,_,_,rfl,by lia,a⟩
 .rintro L ⟨s,r,p,day,rfl,cd,a⟩;rw[zZ2,ye0,xl]at a;rw[a]at q;and_intros;exact q
def bB {C:Ae}(F:FnD K mg "_law_is_paper" zy6 ["_law_books_here","_law_stay_here","_law_coins_here","_law_paper"])(nb:NbT mg)(R:Cal P w K mg base "can_be_had" 4 (rV C cs))(U:Cal P w K mg base "cost" 6 (oM C cs)):Cal P w K mg base "_law_is_paper" 7 (bf C cs):=by
 refine zN ["_law_books_here","_law_stay_here","_law_coins_here","_law_paper","_law_begin","_law_end","_law_due_here","_law_book"] F λ_ _ _ _ _ _ _ _ Q nd hr h=>?_;obtain⟨Bs,c,g,x,pp,rfl,I,⟨T,V,g1,g2⟩,J,q⟩:=h;have no:¬iY Bs c g x pp->Q (.dat (.bool false)):=λz=>by rw[tJ z]at q;exact q
 refine yv (λL=>L=[some (.dat (zx C cs Bs)),some (.dat (.tuple [.int c,.int g])),some (.dat (.int x)),some (.dat (.list (pp.map .int))),none,none,none,none]/\pp.length=(g-c).toNat/\pp.sum=x) ?_ ?_
 .and_intros;rw[zZ2];refine yh (λh=>?_) (λh=>?_)
  .have h:¬((pp.length:Nat):Int)=g-c:=by simpa using h
   and_intros;exact no λz=>by have:=z.1;lia
  .have h:((pp.length:Nat):Int)=g-c:=by simpa using h
   and_intros;refine oq rfl (by rfl) nb.sum ?_;and_intros;refine⟨J,by lia,?_⟩;and_intros;refine zv (λh3=>?_) (λh3=>?_)
   .have h3:¬pp.sum=x:=by simpa using h3
    and_intros;exact no λz=>h3 z.2.1
   .have h3:pp.sum=x:=by simpa using h3
    and_intros;exact⟨rfl,by lia,h3⟩
 rintro L ⟨rfl,pl,psum⟩;refine zQ (.one 4) (yJ (by rfl) nb.range ?_);and_intros;refine⟨⟨by lia,by lia,by lia,by lia⟩,?_⟩;refine zB (λi L=>∃G s r a:Option A,L=[some (.dat (zx C cs Bs)),some (.dat (.tuple [.int c,.int g])),some (.dat (.int x)),some (.dat (.list (pp.map .int))),G,s,r,a]/\∀f j:Nat,f<i->c+f+j<g->xQ Bs (c+f) (c+f+j+1) ((pp.drop f).take (j+1)).sum) ⟨none,none,none,none,rfl,λf j h=>by lia⟩ ?_ ?_
 .rintro i d L hd ⟨G,s,r,a,rfl,l⟩;rw[z04,z22]at hd;obtain⟨u,H,rfl⟩:=hd;have hi:=(zZ6.mp H).1;rw[zb]at hi;rw[zE hi]at H;cases H;refine⟨_,rfl,?_⟩;refine zQ (.one 5) (yJ (by rfl) nb.range ?_);and_intros;refine⟨⟨by lia,by lia,by lia,by lia⟩,?_⟩;refine zB (λj L=>∃s r a:Option A,L=[some (.dat (zx C cs Bs)),some (.dat (.tuple [.int c,.int g])),some (.dat (.int x)),some (.dat (.list (pp.map .int))),some (.dat (.int (c+(i:Int)))),s,r,a]/\∀b:Nat,b<j->xQ Bs (c+i) (c+i+b+1) ((pp.drop i).take (b+1)).sum) ⟨s,r,a,rfl,λb h=>by lia⟩ ?_ ?_
  .rintro j d L hd ⟨s,r,a,rfl,m⟩;rw[z04,z22]at hd;obtain⟨v,D,rfl⟩:=hd;have M:=(zZ6.mp D).1;rw[zb]at M;rw[zE M]at D;obtain rfl:v=c+i+j+1:=by injection D with D;lia
   have t:zG (c+i) (c+i+j+1):=⟨by lia,by lia,by lia,by lia⟩;refine⟨_,rfl,?_⟩;refine yf 6 nd (oq rfl (by rfl) nb.sum (EvL.d (cL ?_)));and_intros;rw[zf1 _ (by lia) (by lia) (by rw[zZ2];lia),show(c+(i:Int)-c).toNat=i by lia,show(c+(i:Int)+j+1-c-(c+i-c)).toNat=j+1 by lia,<-yk2,<-yh0];refine⟨_,rfl,λn hn=>J n (yj4 (z91 hn)),by rw[z49,z88];lia,?_⟩;generalize O:((pp.drop i).take (j+1)).sum=S;refine zQ (.one 7) (zW ?_);and_intros;refine zB (λk L=>∃a:Option A,L=[some (.dat (zx C cs Bs)),some (.dat (.tuple [.int c,.int g])),some (.dat (.int x)),some (.dat (.list (pp.map .int))),some (.dat (.int (c+(i:Int)))),some (.dat (.int (c+i+j+1))),some (.dat (.int S)),a]/\∀ds∈Bs.take k,∀y,coO ds (c+i) (c+i+j+1)=some y->S<=y) ⟨a,rfl,λds h=>by simp at h⟩ ?_ ?_
   .rintro k d L hd ⟨a,rfl,o⟩;rw[z04,z22]at hd;obtain⟨ds,hk,rfl⟩:=hd;have E:=z47 hk;have nx:(∀y,coO ds (c+i) (c+i+j+1)=some y->S<=y)->∀ds∈Bs.take (k+1),∀y,coO ds (c+i) (c+i+j+1)=some y->S<=y:=λh e he=>by
     rw[z75,hk]at he;rcases z44.mp he with he|he
     .exact o e he
     .rw[z06.mp he];exact h
    refine⟨_,rfl,?_⟩;and_intros;refine⟨ds,_,_,rfl,I ds E,t,?_⟩;and_intros;refine yh (λh1=>?_) (λh1=>?_)
    .and_intros;refine⟨ds,_,_,rfl,I ds E,t,h1,?_⟩;and_intros;refine zv (λh2=>?_) (λh2=>?_)
     .have h2:=z41 h2;and_intros;exact no λz=>by
       have:=z.2.2 i j (by lia) ds E (coD ds (c+i) (c+i+j+1)) (by rw[coO,if_pos h1])
       lia
     .have h2:=yc9 h2;and_intros;refine nx λy hy=>?_;rw[coO,if_pos h1]at hy;cases hy
      lia
    .and_intros;refine nx λy hy=>?_;rw[coO,if_neg (by rw[h1];exact z32)]at hy;cases hy
   .rintro L ⟨a,rfl,o⟩;rw[zZ2,z80]at o;and_intros;refine⟨_,_,_,rfl,λb B=>?_⟩;by_cases e:b=j
    .subst e;rw[O];exact o
    .exact m b (by lia)
  .rintro L ⟨s,r,a,rfl,m⟩;rw[zZ2,zb]at m;and_intros;refine⟨_,_,_,_,rfl,λf b N B=>?_⟩;by_cases e:f=i
   .subst e;exact m b (by lia)
   .exact l f b (by lia) B
 .rintro L ⟨G,s,r,a,rfl,l⟩;rw[zZ2,zb]at l;rw[lj (p:=iY Bs c g x pp) ⟨pl,psum,λi j h=>l i j (by lia) h⟩]at q;and_intros;exact q
def eZ {C:Ae}(F:FnD K mg "_law_is_shut" zf4 ["_law_books_here","_law_stay_here","_law_days"])(nb:NbT mg)(ns:mg "set"=none)(V:Cal P w K mg base "can_be_had" 4 (rV C cs)):Cal P w K mg base "_law_is_shut" 5 (iZ C cs):=by
 refine zN ["_law_books_here","_law_stay_here","_law_days","_law_begin","_law_end"] F λ_ _ _ _ _ _ _ _ Q nd hr h=>?_;obtain⟨Bs,c,g,ds,rfl,R,bl,⟨X,Z,g1,g2⟩,dl,q⟩:=h;have no:¬uk Bs c g ds->Q (.dat (.bool false)):=λz=>by rw[tJ z]at q;exact q
 refine yv (λL=>L=[some (.dat (zx C cs Bs)),some (.dat (.tuple [.int c,.int g])),some (.dat (.list (ds.map .int))),none,none]/\ds.Pairwise (·<·)/\c∈ds/\¬g∈ds) ?_ ?_
 .and_intros;refine EvL.d (rT (by rfl) nb.sorted ?_);and_intros;refine⟨by lia,λys pm E=>?_⟩;refine eqk (shaped_ints _).1 (shaped_ints _).1 (uM _) (uM _) ?_;rw[show PyData.eqv (.list (ds.map .int)) (.list (ys.map .int))=decide (ds=ys)from cQ ds ys];refine yh (λh=>?_) (λh=>?_)
  .have h:¬ds=ys:=by simpa using h
   and_intros;exact no λz=>h ((pm.eq_of_pairwise (λa b _ _ h1 h2=>Int.le_antisymm h1 h2) E (z.1.2.imp yd1)).symm)
  have h:ds=ys:=by simpa using h
  rw[<-h]at E;and_intros;refine⟨by lia,?_⟩;and_intros;rw[zZ2];refine yh (λh1=>?_) (λh1=>?_)
  .have h1:¬(firstMet (λi=>ds.getD i 0) ds.length).length=ds.length:=by first|exact Int.natCast_inj.mp (by simpa using h1)|exact λz=>absurd (congrArg Nat.cast z) (by simpa using h1)
   and_intros;refine no λz=>h1 (wZ _ _ λi j o s=>?_);have:=ya0.mp z.1.2 i j (by lia) s o;simp only[z00,zZ5 s,zZ5 (yi0 o s),Option.getD_some]
   lia
  have h1:(firstMet (λi=>ds.getD i 0) ds.length).length=ds.length:=by first|exact Int.natCast_inj.mp (by simpa using h1)|exact λz=>absurd (congrArg Nat.cast z) (by simpa using h1)
  have D:ds.Pairwise (·<·):=ya0.mpr λi j hi s o=>by
   have a:=ya0.mp E i j hi s o;have b:=cT _ _ h1 i j o s;simp only[z00,zZ5 s,zZ5 hi,Option.getD_some]at b
   lia
  and_intros;refine ink rfl (uq _) ?_;rw[qG];refine yh (λh2=>?_) (λh2=>?_)
  .have h2:¬c∈ds:=by simpa using h2
   and_intros;refine no λz=>h2 ?_;obtain⟨r,e⟩:=z.1.1;rw[e];exact z03
  have h2:c∈ds:=by simpa using h2
  and_intros;refine ink rfl (uq _) ?_;rw[qG];refine zv (λh3=>?_) (λh3=>?_)
  .have h3:g∈ds:=by simpa using h3
   and_intros;exact no λz=>by have:=z.2.1 g h3;lia
  .have h3:¬g∈ds:=by simpa using h3
   and_intros;exact⟨rfl,D,h2,h3⟩
 rintro L ⟨rfl,D,N,S⟩;refine zQ (.one 3) (zW ?_);and_intros;refine zB (λi L=>∃J u:Option A,L=[some (.dat (zx C cs Bs)),some (.dat (.tuple [.int c,.int g])),some (.dat (.list (ds.map .int))),J,u]/\∀d∈ds.take i,c<=d/\d<g/\¬uA Bs d g ds) ⟨none,none,rfl,λd h=>by simp at h⟩ ?_ ?_
 .rintro i d L hd ⟨J,u,rfl,f⟩;rw[z04,z22]at hd;obtain⟨z,M,rfl⟩:=hd;have B:=z47 M;refine⟨_,rfl,?_⟩;and_intros;refine yh (λh1=>?_) (λh1=>?_)
  rotate_left
  .have h1:¬c<=z:=by simpa using h1
   and_intros;refine no λy=>h1 ?_;obtain⟨⟨r,e⟩,_⟩:=y.1;rw[e]at B D;rcases zZ9.mp B with rfl|B
   .exact z90 _
   .exact yd1 ((z74.mp D).1 z B)
  have h1:c<=z:=by simpa using h1
  and_intros;refine zv (λh2=>?_) (λh2=>?_)
  .have h2:¬z<=g:=by simpa using h2
   and_intros;exact no λy=>by have:=y.2.1 z B;lia
  have h2:z<=g:=by simpa using h2
  have h2:z<g:=by
   rcases Int.lt_or_eq_of_le h2 with h|rfl
   .exact h
   .exact absurd B S
  and_intros;refine zQ (.one 4) (yJ (by rfl) nb.range ?_);and_intros;refine⟨⟨by lia,by lia,by lia,by lia⟩,?_⟩;refine zB (λj L=>∃u:Option A,L=[some (.dat (zx C cs Bs)),some (.dat (.tuple [.int c,.int g])),some (.dat (.list (ds.map .int))),some (.dat (.int z)),u]/\∀l n:Nat,l<j->¬z+1+l∈ds->n<Bs.length->(coB Bs n z (z+1+l)).isSome=false) ⟨u,rfl,λl n h=>by lia⟩ ?_ ?_
  .rintro j d L hd ⟨u,rfl,m⟩;rw[z04,z22]at hd;obtain⟨v,I,rfl⟩:=hd;have s:=(zZ6.mp I).1;rw[zb]at s;rw[zE s]at I;cases I;have x:zG z (z+1+(j:Int)):=⟨by lia,by lia,by lia,by lia⟩;refine⟨_,rfl,?_⟩;and_intros;refine ink rfl (uq _) ?_;rw[qG];refine yh (λh=>?_) (λh=>?_)
   .have h:¬z+1+(j:Int)∈ds:=by simpa using h
    and_intros;refine EvL.d (yS ["_law_book","_law_begin","_law_end"] [none,some 3,some 4] (.one 0) (zW ?_));and_intros;refine⟨by rw[zZ2];lia,?_⟩;refine zV (λb=>.bool (xt b z (z+1+(j:Int)))) (λb hb=>⟨_,rfl,λ_ _ _ _ _ k=>?_⟩) ?_
    .and_intros;exact⟨b,z,z+1+(j:Int),rfl,R b hb,x,k⟩
    rw[z51,show Bs.map (λb=>PyData.bool (xt b z (z+1+(j:Int))))=(Bs.map λb=>xt b z (z+1+(j:Int))).map .bool by rw[z53]<;>rfl];refine ink rfl (by rw[yd7,z79];intro _ _;rfl) ?_;rw[zv5];refine zv (λh3=>?_) (λh3=>?_)
    .rw[yj5,yh5]at h3;obtain⟨b,hb,H⟩:=h3;have H:xt b z (z+1+(j:Int))=true:=H;obtain⟨n,hn,rfl⟩:=ye2.mp hb;and_intros;exact no λy=>y.2.2 z B ⟨z+1+j,n,by lia,by lia,h,hn,by rw[vn (zZ5 hn) x,coO,if_pos H]<;>rfl⟩
    .and_intros;intro l n G t hn;by_cases e:l=j
     .subst e;rw[yj5,yg3]at h3;have:¬xt Bs[n] z (z+1+(l:Int))=true:=h3 _ (z69 hn);rw[vn (zZ5 hn) x,coO,if_neg this];rfl
     .exact m l n (by lia) t hn
   .have h:z+1+(j:Int)∈ds:=by simpa using h
    and_intros;intro l n G t hn;by_cases e:l=j
    .subst e;exact absurd h t
    .exact m l n (by lia) t hn
  .rintro L ⟨u,rfl,m⟩;rw[zZ2,zb]at m;and_intros;refine⟨_,_,rfl,λd hd=>?_⟩;rw[z75,M]at hd;rcases z44.mp hd with hd|hd
   .exact f d hd
   rw[z06.mp hd];refine⟨h1,h2,λ⟨e,n,e1,Y,T,O,U⟩=>?_⟩;have:=m (e-z-1).toNat n (by lia) (by rw[show z+1+((e-z-1).toNat:Int)=e by lia];exact T) O;rw[show z+1+((e-z-1).toNat:Int)=e by lia,U]at this;cases this
 .rintro L ⟨J,u,rfl,f⟩;rw[zZ2,z80]at f;rw[lj (p:=uk Bs c g ds) ⟨⟨?_,D⟩,λd hd=>(f d hd).2.1,λd hd=>(f d hd).2.2⟩]at q
  .and_intros;exact q
  .cases ds with
   |nil=>cases N
   |cons a r=>
    refine⟨r,?_⟩;have:=(f a z03).1;rcases zZ9.mp N with rfl|h
    .rfl
    .have:=(z74.mp D).1 c h
     lia
end
abbrev zO6 :An:=top 81
def zx1 (C:Ae)(cs:Cs):Ph:=λas Q=>∃(Bs:List (List Aa)) (c g:Int) (d:Aa),as=[.dat (zx C cs Bs),.dat (.tuple [.int c,.int g]),.dat d]/\zI Bs/\Bs.length<=8/\zG c g/\ThB d/\Q (.dat (.bool (tr (Let Bs c g d))))
section
variable {P:Ag}{w:Ai}{K:Ac}{mg:Str->Option Ab}{base:Ao}{cs:Cs}
theorem zs3 {C:Ae}(F:FnD K mg "_law_due" zO6 ["_law_books_here","_law_stay_here","_law_thing"])(nb:NbT mg)(X:Cal P w K mg base "_law_whole" 1 ff)(S:Cal P w K mg base "_law_wholes" 2 mM)(V:Cal P w K mg base "_law_is_cut" 5 (aM C cs))(Y:Cal P w K mg base "_law_is_paper" 7 (bf C cs))(N:Cal P w K mg base "_law_is_shut" 5 (iZ C cs))(R:Cal P w K mg base "cost" 6 (oM C cs)):Cal P w K mg base "_law_due" 8 (zx1 C cs):=by
 refine zN ["_law_books_here","_law_stay_here","_law_thing","_law_part","_law_coins_here"] F λ_ _ _ _ _ _ _ _ Q nd hr h=>?_;obtain⟨Bs,c,g,d,rfl,u,bl,o,l,q⟩:=h;have no:¬Let Bs c g d->Q (.dat (.bool false)):=λz=>by rw[tJ z]at q;exact q
 and_intros;refine⟨_,l.nod,rfl,?_⟩;cases ht:pW d with
 |false=>
  and_intros;exact no (by rintro(⟨_,_,_,rfl,_⟩|⟨_,rfl,_⟩)<;>cases ht)
 |true=>
 obtain⟨ts,rfl⟩:∃ts,d=.tuple ts:=by cases d<;>first|exact⟨_,rfl⟩|cases ht
 cases ts with
 |nil=>
  and_intros;exact no (by rintro(⟨_,_,_,h,_⟩|⟨_,h,_⟩)<;>cases h)
 |cons a r=>
 have na:=oU l.nod;and_intros;refine⟨_,na,rfl,?_⟩;cases hs:isStr a with
 |false=>
  and_intros;exact no (by rintro(⟨_,_,_,h,_⟩|⟨_,h,_⟩)<;>cases h<;>cases hs)
 |true=>
 obtain⟨s,rfl⟩:∃s,a=.str s:=by cases a<;>first|exact⟨_,rfl⟩|cases hs
 and_intros;refine zv (λh=>?_) (λh=>?_)
 .obtain rfl:s="off":=z41 h;rcases r with _|⟨x,_|⟨y,r⟩⟩
  .and_intros;exact no (by rintro(⟨_,_,_,h,_⟩|⟨_,h,_⟩)<;>cases h)
  .have v:=l.off _ _ rfl;and_intros;refine⟨v.nod,v.len,?_⟩;rcases zk2 x with⟨ds,rfl⟩|⟨e,ne⟩
   .rw[cc];and_intros;refine⟨Bs,c,g,ds,rfl,u,bl,o,by have:=v.len _ rfl;rwa [zZ2]at this,?_⟩;rw[show tr (uk Bs c g ds)=tr (Let Bs c g (.tuple [.str "off",.list (ds.map .int)])) by
     rw[z61,yk,yk];refine⟨λh=>.inr ⟨_,rfl,ds,rfl,h⟩,?_⟩;rintro(⟨_,_,_,h,_⟩|⟨_,h,t,e,k⟩)<;>cases h;cases sZ e;exact k]
    exact q
   .rw[e];and_intros;exact no (by rintro(⟨_,_,_,h,_⟩|⟨_,h,t,e,k⟩)<;>cases h;exact ne t e)
  .and_intros;exact no (by rintro(⟨_,_,_,h,_⟩|⟨_,h,_⟩)<;>cases h)
 have h:¬s="off":=yc9 h;have no:(∀x cu pa,PyData.tuple (.str s::r)=.tuple [.str "had",x,cu,pa]->¬rR Bs c g x cu pa)->Q (.dat (.bool false)):=λz=>no (by
  rintro(⟨_,_,_,e,k⟩|⟨_,e,_⟩)
  .exact z _ _ _ e k
  .cases e;exact h rfl)
 and_intros;refine yh (λh1=>?_) (λh1=>?_)
 .have h1:¬s="had":=by simpa using h1
  and_intros;exact no λ_ _ _ e=>by cases e;exact absurd rfl h1
 obtain rfl:s="had":=by simpa using h1
 rcases r with _|⟨x,_|⟨cu,_|⟨pa,_|⟨z,r⟩⟩⟩⟩
 .and_intros;exact no λ_ _ _ e=>by cases e
 .and_intros;exact no λ_ _ _ e=>by cases e
 .and_intros;exact no λ_ _ _ e=>by cases e
 rotate_left
 .and_intros;exact no λ_ _ _ e=>by cases e
 have no:¬rR Bs c g x cu pa->Q (.dat (.bool false)):=λz=>no λ_ _ _ e=>by cases e;exact z
 have q:Q (.dat (.bool (tr (rR Bs c g x cu pa)))):=by
  rw[show tr (rR Bs c g x cu pa)=tr (Let Bs c g (.tuple [.str "had",x,cu,pa])) by
   rw[z61,yk,yk];exact⟨λh=>.inl ⟨x,cu,pa,rfl,h⟩,by rintro(⟨_,_,_,h,k⟩|⟨_,h,_⟩)<;>cases h;exact k⟩]
  exact q
 obtain⟨M,tp⟩:=l.had _ _ _ _ rfl;have nx:x.hasDict=false:=xZ (by have:=l.nod;rwa [PyData.hasDict]at this) x (by simp);clear l;rcases zI4 x with⟨x,rfl⟩|⟨e,ne⟩
 rotate_left
 .and_intros;refine⟨nx,?_⟩;rw[e];and_intros;exact no λ⟨z,_,_,h,_⟩=>ne z h
 obtain⟨ps,pl,rfl|rfl⟩:=M
 rotate_left
 .and_intros;refine⟨_,sX _,rfl,?_⟩;and_intros;exact no λ⟨_,_,_,_,h,_⟩=>by cases h
 and_intros;refine⟨_,rF _,rfl,?_⟩;and_intros;refine zQ (.one 3) (zW ?_);and_intros;refine zB (λi L=>∃E:Option A,L=[some (.dat (zx C cs Bs)),some (.dat (.tuple [.int c,.int g])),some (.dat (.tuple [.str "had",.int x,.list (ps.map pD),pa])),E,none]) ⟨none,rfl⟩ ?_ ?_
 .rintro i d L hd ⟨E,rfl⟩;rw[z04,z22]at hd;obtain⟨p,f,rfl⟩:=hd;refine⟨_,rfl,?_⟩;unfold pD;and_intros;refine⟨λts e=>by cases e;exact z25 rfl,?_⟩;and_intros;exact⟨_,rfl⟩
 rintro L ⟨E,rfl⟩;obtain⟨U,T,g1,g2⟩:=id o;have B:=λpp:List Int=>pZ (Bs:=Bs) (c:=c) (g:=g) (x:=x) (ps:=ps) (pp:=pp);and_intros;refine⟨Bs,c,g,ps,rfl,u,o,by lia,?_⟩;and_intros;refine yh (λh=>?_) (λh=>?_)
 .have h:xl Bs c g c ps=false:=by simpa using h
  and_intros;refine no λy=>?_;obtain⟨_,_,pp,_,_,rfl,_⟩:=id y;have:=(B _ y).1;rw[h]at this;cases this
 have G:xl Bs c g c ps=true:=by simpa using h
 obtain⟨pin,p2⟩:=oj o G;and_intros;refine⟨tp.nod,tp.len,?_⟩;rcases zk2 pa with⟨pp,rfl⟩|⟨e,ne⟩
 rotate_left
 .rw[e];and_intros;exact no λ⟨_,_,pp,_,_,h,_⟩=>ne pp h
 rw[cc];and_intros;have get:∀p∈ps,∃ds,Bs[p.2.2.toNat]?=some ds/\Bs.getD p.2.2.toNat []=ds/\zw ds:=λp f=>by
  obtain⟨h1,h2,_⟩:=pin p f;obtain⟨ds,a,b⟩:=oB (Bs:=Bs) (n:=p.2.2.toNat) (by lia);exact⟨ds,a,b,u ds (z47 a)⟩
 refine jm 15000000000000 rfl (by rfl) nb.sum (EvL.d (yS ["_law_begin","_law_end","_law_number","_law_books_here"] [none,none,none,some 0] (.many [0,1,2]) (zW ?_)));and_intros;refine⟨by rw[zZ2];lia,?_⟩;refine zV (λp=>.int (coD (Bs.getD p.2.2.toNat []) p.1 p.2.1)) (λp f=>⟨_,rfl,λ_ _ _ _ _ k=>?_⟩) ?_
 .obtain⟨ds,a,b,D⟩:=get p f;obtain⟨h1,h2,h3,m⟩:=pin p f;rw[b]at k m;and_intros;refine ixk rfl rfl (i:=p.2.2) (by rw[show p.2.2=((p.2.2.toNat:Nat):Int) by lia];exact yn (j:=p.2.2.toNat) (by rw[z04,a]<;>rfl)) ?_;and_intros;exact⟨ds,p.1,p.2.1,rfl,D,h3,m,k⟩
 rw[z51,show ps.map (λp=>PyData.int (coD (Bs.getD p.2.2.toNat []) p.1 p.2.1))=(ps.map λp=>coD (Bs.getD p.2.2.toNat []) p.1 p.2.1).map .int by rw[z53]<;>rfl];refine⟨_,rfl,λn hn=>?_,by rw[zZ2];lia,?_⟩
 .obtain⟨p,f,rfl⟩:=z33.mp hn;obtain⟨ds,a,b,D⟩:=get p f;obtain⟨h1,h2,h3,m⟩:=pin p f;rw[b]at m;have:=lO D h3 m;rw[b]
  lia
 rw[show(ps.map λp=>coD (Bs.getD p.2.2.toNat []) p.1 p.2.1).sum=yU Bs ps from rfl];and_intros;refine yh (λh=>?_) (λh=>?_)
 .have h:yU Bs ps=x:=z41 h;and_intros;refine⟨Bs,c,g,_,pp,rfl,u,o,tp.bd pp rfl,?_⟩;rw[show tr (iY Bs c g (yU Bs ps) pp)=tr (rR Bs c g (.int x) (.list (ps.map pD)) (.list (pp.map .int))) by
   rw[z61,yk,yk];exact⟨λz=>⟨x,ps,pp,rfl,rfl,rfl,G,h.symm,z.1,by rw[z.2.1,h],z.2.2⟩,λz=>by
    obtain⟨_,O,I,J,H⟩:=B pp z;exact⟨I,by rw[<-J,h],H⟩⟩]
  exact q
 .have h:¬yU Bs ps=x:=yc9 h;and_intros;exact no λy=>h (B pp y).2.1.symm
end
section
variable {X:Cx}{L:Ev}{e:Ak}{p pos:Pos}{Q:Aa->Prop}
def iF (hg:Gl X "str")(hm:X.mg "str"=none)(h:EvD X L e λx=>∃i:Int,x=.int i/\i.natAbs.log2<1920/\Q (.str (toString i)))(he:Af [e] X.env=(false,eval e X.env)::Af [] X.env:=by rfl):
  EvD X L (.Call (.Name "str" p) [e] [] pos) Q:=λF B H R m k=>by
 refine⟨_,yw oy hg hm boot_str (zr zf zD he) (he:=he),?_⟩;refine h F B H _ m λx f H1 b t1 a d=>?_;obtain⟨i,rfl,c,q⟩:=b;cases d.int_inv;exact⟨i,rfl,c,k _ _ H1 q t1 a (.str _)⟩
def pH (hg:Gl X "tuple")(hm:X.mg "tuple"=none)(h:EvD X L e λx=>∃ds,x=.list ds/\Q (.tuple ds))(he:Af [e] X.env=(false,eval e X.env)::Af [] X.env:=by rfl):
  EvD X L (.Call (.Name "tuple" p) [e] [] pos) Q:=λF B H R m k=>by
 refine⟨_,yw qo hg hm boot_tuple (zr zf zD he) (he:=he),?_⟩;refine h F B H _ m λx g H1 d t1 c f=>?_;obtain⟨ds,rfl,q⟩:=d;have m1:=m.kz c t1;obtain⟨l,xs,rfl,h1,h2⟩:=f.lst_inv;refine⟨_,xs,rfl,.inl ⟨SqL.of (zc h1).2,λi b=>?_⟩⟩;exact k _ _ _ q (t1.same (zH b)) (c.trans (Kz.of_same (zH b))) (.tup (xs:=xs) (zy (m1.fresh b) zg) (h2.same (zq λa o ha e=>⟨ha,by rw[zd (zj e b)];exact e⟩)))
end
abbrev sBP :An:=top 82
abbrev sBD :An:=top 83
structure Sz (n k:Nat)(d:Aa):Prop where
 ni:zS n d
 dp:d.depth<=k
theorem Sz.mono {n k a b:Nat}{d:Aa}(h:Sz n k d)(h1:n<=a)(h2:k<=b):Sz a b d:=⟨h.ni.mono h1,z05 h.dp h2⟩
theorem aS {n:Nat}:∀{ds:List Aa},(∀d∈ds,d.depth<=n)->PyData.depthAll ds<=n
 |[],_=>by simp[PyData.depthAll]
 |d::r,h=>by
  have h1:=h d z03;have h2:=aS (ds:=r) λe he=>h e (z01 _ he);simp only[PyData.depthAll]
  lia
def oP {n k:Nat}{ds:List Aa}(m a:Nat)(h:∀d∈ds,Sz n k d)(b:ds.length<=m)(hk:k<=6)(hn:m*(n+2)+3<=a):Sz a (k+1) (.list ds)/\Sz a (k+1) (.tuple ds):=by
 have na:ye n ds:=⟨λd hd=>(h d hd).ni,λd hd=>by have:=(h d hd).dp;lia⟩;have l:=yj0 (n+2) b;have dp:=aS λd hd=>(h d hd).dp;exact⟨⟨zS.list na (by lia),by simp only[PyData.depth];lia⟩,⟨zS.tuple na (by lia),by simp only[PyData.depth];lia⟩⟩
def sW {i:Int}(h:-300000000000000000<=i/\i<=300000000000000000):Sz 2000 0 (.int i):=⟨zS.int (by unfold big;lia) (by unfold big;lia),by simp[PyData.depth]⟩
def vo :Sz 2000 0 .none:=⟨zS.none,by simp[PyData.depth]⟩
def jW (b:Bool):Sz 2000 0 (.bool b):=⟨zS.bool b,by simp[PyData.depth]⟩
def vg {x:Str}(h1:PyData.strOk x=true)(h3:(PyData.str x).shown.length<=2000):Sz 2000 0 (.str x):=⟨⟨by simp[PyData.showable],rfl,z21 _,h3,by simp only[PyData.canLay0];exact h1⟩,by simp[PyData.depth]⟩
def zt8 (n:Int)(h0:0<=n)(h1:n<10 ^ 20):Sz 2000 0 (.str (toString n)):=by
 obtain⟨n,rfl⟩:=z66 h0;have e:(Str.ofString (toString (n:Int))).cps.toList=(Nat.toDigits 10 n).map Char.toNat:=PySem.W.KIN.signs_num n;have b:(Str.ofString (toString (n:Int))).length<=20:=toString_length_le (by lia) (by decide) h1;generalize Str.ofString (toString (n:Int))=s at e b;have lt:∀c∈s.cps.toList,c<1114112:=λc a=>by
  rw[e]at a;obtain⟨x,_,rfl⟩:=z33.mp a;have:=x.valid;simp[UInt32.isValidChar,Nat.isValidChar]at this
  lia
 refine vg ?_ ?_
 .rw[PyData.strOk,<-Array.all_toList,z79];exact λc a=>z39 (lt c a)
 .rw[PyData.shown_str];have:=(sum_filter_repr (λ_=>true) [s] λy hy c a=>by rw[z06.mp hy]at a;exact yi0 (lt c a) (by decide)).1;simp at this
  lia
def It (t:Aa):Prop:=Sz 9000 1 t/\∀n:Int,t=.int n->-300000000000000000<=n/\n<=300000000000000000
def zd8 {t:Aa}(h:Sz 2000 0 t)(hn:∀n:Int,t≠.int n):It t:=⟨h.mono (by decide) (by decide),λn e=>absurd e (hn n)⟩
def xk {i:Int}(h:-300000000000000000<=i/\i<=300000000000000000):It (.int i):=⟨(sW h).mono (by decide) (by decide),λn e=>by cases e;exact h⟩
def iU :It .none:=zd8 vo λ_ h=>by cases h
def jx (b:Bool):It (.bool b):=zd8 (jW b) λ_ h=>by cases h
def cy {x:Str}(h:Sz 2000 0 (.str x)):It (.str x):=zd8 h λ_ h=>by cases h
def zA2 {i:Int}(h:-300000000000000000<=i/\i<=300000000000000000):It (.list [.int i]):=⟨(oP 1 9000 (λd hd=>by rw[z06.mp hd];exact sW h) (zZ8 _) (by decide) (by decide)).1,λn e=>by cases e⟩
def Ok (d:Aa):Prop:=ThL d/\Sz 400000 2 d
def wM {ts:List Aa}(h:∀t∈ts,It t)(c:ts.length<=40):Ok (.list ts)/\Ok (.tuple ts):=by
 obtain⟨a,b⟩:=oP 40 400000 (λd hd=>(h d hd).1) c (by decide) (by decide);refine⟨⟨⟨a.ni.nod,λus e=>by cases e;exact c,λzs e n hn=>?_⟩,a⟩,⟨b.ni.nod,(λus e=>by cases e),(λzs e=>by cases e)⟩,b⟩;cases e;exact(h _ (z33.mpr ⟨n,hn,rfl⟩)).2 n rfl
def jP :Ok .none:=⟨⟨rfl,(λus e=>by cases e),(λzs e=>by cases e)⟩,vo.mono (by decide) (by decide)⟩
def kA {ds:List Aa}{v:Int}(v0:0<=v)(b:v<ds.length):∃d,d∈ds/\atI ds v=some d/\ixN ds.length v=some v.toNat:=by
 have a:v.toNat<ds.length:=by lia
 have e:ixN ds.length v=some v.toNat:=by
  unfold ixN;rw[if_pos v0,if_pos b]
 refine⟨ds[v.toNat],z69 a,?_,e⟩;unfold atI;rw[e];exact zZ5 a
def InB (B:Int)(ts:List Aa):Prop:=∀t∈ts,∃n:Int,t=.int n/\-B<=n/\n<=B
theorem InB.set {B B':Int}{ts:List Aa}(h:InB B ts)(hb:B<=B'){n:Int}(i:Nat)(h0:-B'<=n)(h1:n<=B'):InB B' (ts.set i (.int n)):=λt c=>by
 rcases List.mem_or_eq_of_mem_set c with c|rfl
 .obtain⟨n,rfl,a,b⟩:=h t c;exact⟨n,rfl,by lia,by lia⟩
 .exact⟨n,rfl,h0,h1⟩
def InB.it {B:Int}{ts:List Aa}(h:InB B ts)(hb:B<=300000000000000000):∀t∈ts,It t:=λt c=>by
 obtain⟨n,rfl,a,b⟩:=h t c;exact xk ⟨by lia,by lia⟩
def zK0 :Ph:=λas Q=>∃ts,as=[.tape,.dat (.list ts)]/\InB 300000000000000 ts/\0<ts.length/\ts.length<=14/\∀d,Ok d->Q (.dat d)
def zK9 :Ph:=λas Q=>∃(c g:Int) (ds:List Int),as=[.tape,.dat (.list (ds.map .int)),.dat (.tuple [.int c,.int g])]/\zG c g/\0<ds.length/\ds.length<=14/\(∀d∈ds,0<=d/\d<=1000000)/\∀d,Ok d->Q (.dat d)
def xP {ts us:List Aa}(h:∀t∈ts,It t)(h':∀t∈us,It t):∀t∈ts++us,It t:=λt a=>(z44.mp a).elim (h t) (h' t)
def vQ {t:Aa}(h:It t):∀u∈[t],It u:=λu a=>by rw[z06.mp a];exact h
def vf {ts:List Aa}{lo hi:Option Int}(h:∀t∈ts,It t):∀t∈L2.cutD ts lo hi,It t:=λt a=>h t (iX a)
section
variable {P:Ag}{w:Ai}{K:Ac}{mg:Str->Option Ab}{base:Ao}{cs:Cs}
def zC0 (F:FnD K mg "_law_bent_paper" sBP ["_law_tape_here","_law_paper"])(nb:NbT mg)(C:Cal P w K mg base "_law_draw" 1 yL):Cal P w K mg base "_law_bent_paper" 2 zK0:=by
 refine zN ["_law_tape_here","_law_paper","_law_at","_law_to","_law_more","_law_found","_law_way"] F λ_ _ _ _ _ _ _ _ Q nd hr h=>?_;obtain⟨ts,rfl,j,B,l1,q⟩:=h;have it:=j.it (by decide);and_intros;rename_i a v a1 p t0 t1 G i g v4 c o E k f;refine wH (λd=>∃m:Int,d=.int m/\0<=m/\m<=1000000000001) rfl (by assumption) (by assumption) ⟨⟨_,rfl,by lia,by lia⟩,⟨_,rfl,by lia,by lia⟩,⟨_,rfl,by lia,by lia⟩,trivial⟩ ?_;rintro _ ⟨m,rfl,m0,m1⟩;clear i g c o k f;obtain⟨_,am,r,s⟩:=kA v a1;obtain⟨x,rfl,x0,x1⟩:=j _ am;refine xu 5 nd (pG (by rfl) nb.list (zi 1 rfl ⟨_,rfl,?_⟩));and_intros;refine zv (λ_=>?_) (λ_=>?_)
 .have b:=j.set (B':=302000000000000) (by decide) (n:=x+m) a.toNat (by lia) (by lia);have l2:(ts.set a.toNat (.int (x+m))).length=ts.length:=z62 ..;obtain⟨_,bm,u,z⟩:=kA (ds:=ts.set a.toNat (.int (x+m))) t0 (by lia);obtain⟨y,rfl,D,A⟩:=b _ bm;refine pQ 5 rfl (vL (oS 5 rfl (wC hr.one (λ_ _=>rfl) (zi 5 rfl (zi 2 rfl (ixk rfl rfl r ⟨rfl,zi 4 rfl ⟨_,_,rfl,rfl,zi 2 rfl ⟨a,a.toNat,rfl,s,?_⟩⟩⟩))))));refine pQ 5 rfl (lL (oS 5 rfl (wC hr.one (λ_ _=>rfl) (zi 5 rfl (zi 3 rfl (ixk rfl rfl u ⟨rfl,zi 4 rfl ⟨_,_,rfl,rfl,zi 3 rfl ⟨p,p.toNat,rfl,z,?_⟩⟩⟩))))));refine qf 5 rfl ?_;and_intros;exact q _ (wM ((b.set (B':=304000000000000) (by decide) _ (by lia) (by lia)).it (by decide)) (by rw[z62,l2];lia)).1
 and_intros;refine zv (λ_=>?_) (λ_=>?_)
 .refine pQ 5 rfl (wC hr.one (λ_ _=>rfl) (EvL.d (yK (zk (iI (zk (rL (zk (xA (zk (EvL.d (yK (zk (yz (zA ⟨_,rfl,z25 rfl,?_⟩)))))))))))))));refine zk (vL (oS 5 rfl (wC hr.one (λ_ _=>rfl) (zi 5 rfl (zi 2 rfl (ixk rfl rfl r ⟨rfl,zi 4 rfl ⟨_,_,rfl,rfl,zA ⟨_,rfl,z25 rfl,?_⟩⟩⟩))))));and_intros;refine wH It rfl (by assumption) (by assumption) ⟨jx _,iU,cy (vg (by decide +kernel) (by decide +kernel)),zA2 (by decide),xk ⟨by lia,by lia⟩,trivial⟩ λd hd=>?_;refine zi 2 rfl ⟨a,a.toNat,rfl,s,?_⟩;refine qf 5 rfl ?_;and_intros;exact q _ (wM (λt l=>(List.mem_or_eq_of_mem_set l).elim (it t) λe=>by rw[e];exact hd) (by rw[z62];lia)).1
 refine zM ?_;refine qf 5 rfl ?_;and_intros;refine zv (λ_=>?_) (λ_=>?_)
 .refine yH (wC hr.one (λ_ _=>rfl) (EvL.d (yK (zk (pH (by rfl) nb.tuple (zi 1 rfl ⟨_,rfl,?_⟩))))));and_intros;have lc:∀{lo hi},(L2.cutD ts lo hi).length<=ts.length:=λ{lo hi}=>ua;refine⟨by have:=lc (lo:=none) (hi:=some a);have:=lc (lo:=some (a+1)) (hi:=none);lia,?_⟩;and_intros;refine⟨by show ts.length+1<=1000;lia,?_⟩;and_intros;exact xK rfl (by assumption) (by assumption) ⟨q _ (wM it (by lia)).2,q _ (wM (xP (vf it) (vf it)) (by rw[z24];have:=lc (lo:=none) (hi:=some a);have:=lc (lo:=some (a+1)) (hi:=none);lia)).1,q _ (wM (xP it (vQ (xk (by decide)))) (by rw[z24];show ts.length+1<=40;lia)).1,q _ jP,trivial⟩
 .refine zM ?_;refine yH (EvL.d (iM (zi 5 rfl ⟨_,rfl,?_⟩)));exact q _ (wM (λt l=>it t (yh6.mp l)) (by rw[z63];lia)).1
def zJ3 (F:FnD K mg "_law_bent_days" sBD ["_law_tape_here","_law_days","_law_stay_here"])(nb:NbT mg)(E:Cal P w K mg base "_law_draw" 1 yL):Cal P w K mg base "_law_bent_days" 2 zK9:=by
 refine zN ["_law_tape_here","_law_days","_law_stay_here","_law_at","_law_way","_law_day","_law_odd"] F λ_ _ _ _ _ _ _ _ Q nd hr h=>?_;obtain⟨c,g,ds,rfl,⟨s,H,g1,g2⟩,D,l1,i,q⟩:=h;have e:∀{zs:List Int},zs.length<=40->(∀z∈zs,-10<=z/\z<=3000000)->Ok (.list (zs.map .int)):=λ{zs} p h=>(wM (λt f=>by
  obtain⟨z,a,rfl⟩:=z33.mp f;have:=h z a;exact xk ⟨by lia,by lia⟩) (by rw[zZ2];exact p)).1
 have it:∀t∈ds.map PyData.int,It t:=λt f=>by
  obtain⟨z,a,rfl⟩:=z33.mp f;have:=i z a;exact xk ⟨by lia,by lia⟩
 have L:(ds.map PyData.int).length=ds.length:=zZ2 ..;have lc:∀{lo hi},(L2.cutD (ds.map PyData.int) lo hi).length<=ds.length:=λ{lo hi}=>by rw[<-L];exact ua
 and_intros;rename_i b o a1 y B C;obtain⟨_,am,j,u⟩:=kA o a1;obtain⟨x,r,rfl⟩:=z33.mp am;have n:=i x r;refine zv (λ_=>?_) (λ_=>?_)
 .and_intros;rename_i m A G;refine ink rfl (uq _) ?_;rw[qG];refine yh (λ_=>?_) (λ_=>?_)
  .refine EvL.d (rT (by rfl) nb.sorted ?_);and_intros;refine⟨by rw[L];show ds.length+1<=1000;lia,?_⟩;refine⟨ds++[c+m],by rw[z54]<;>rfl,by rw[z24];show ds.length+1<64;lia,λys pm v=>?_⟩;refine q _ (e (by rw[pm.length_eq,z24];show ds.length+1<=40;lia) λz a=>?_);rcases z44.mp (pm.mem_iff.mp a)with a|a
   .have:=i z a;lia
   .rw[z06.mp a];lia
  .refine EvL.d (yS ["_law_one","_law_day"] [none,some 5] (.one 0) (zW ?_));and_intros;refine⟨by rw[L];lia,?_⟩;refine mr (l:=ds) (g:=.int) (λz=>!decide (z=c+m)) (λz=>.int z) (λz a=>⟨_,rfl,λ_ _ _ _ _ k=>kE ?_,λ_ _ _ _ _ _ k=>zi 0 rfl k⟩) ?_
   .and_intros;exact k
   rw[z51];exact q _ (e (z05 (List.length_filter_le ..) (by lia)) λz a=>by have:=i z (yi1.mp a).1;lia)
 and_intros;refine zv (λ_=>?_) (λ_=>?_)
 .refine yH (wC hr.one (λ_ _=>rfl) (EvL.d (yK (zk (EvL.d (iM (zi 1 rfl ⟨_,rfl,?_⟩)))))));and_intros;refine ixk rfl rfl j ?_;and_intros;refine⟨by have:=lc (lo:=none) (hi:=some b);show _+1<=1000;lia,?_⟩;and_intros;refine⟨by have:=lc (lo:=none) (hi:=some b);have:=lc (lo:=some b) (hi:=none);rw[z24];show _+1+_<=1000;lia,?_⟩;refine zk (pH (by rfl) nb.tuple (zi 1 rfl ⟨_,rfl,?_⟩));and_intros;exact xK rfl (by assumption) (by assumption) ⟨q _ (wM (λt f=>it t (yh6.mp f)) (by rw[z63];lia)).1,q _ (wM (xP (xP (vf it) (vQ (xk ⟨by lia,by lia⟩))) (vf it)) (by rw[z24,z24];have:=lc (lo:=none) (hi:=some b);have:=lc (lo:=some b) (hi:=none);show _+1+_<=40;lia)).1,q _ (wM it (by lia)).2,q _ jP,trivial⟩
 and_intros;refine zv (λ_=>?_) (λ_=>?_)
 .and_intros;refine⟨by rw[L];show ds.length+1<=1000;lia,?_⟩;exact q _ (wM (xP it (vQ (xk ⟨by lia,by lia⟩))) (by rw[z24];show _+1<=40;lia)).1
 and_intros;refine zv (λ_=>?_) (λ_=>?_)
 .refine yf 6 nd (EvL.d (yK (zk (iI (zk (rL (zk (iF (by rfl) nb.str ?_))))))));and_intros;refine ixk rfl rfl j ?_;and_intros;refine⟨rB (by unfold big;lia) (by unfold big;lia),?_⟩;and_intros;refine ixk rfl rfl j ?_;and_intros;refine wH It rfl (by assumption) (by assumption) ⟨jx _,iU,cy (zt8 x n.1 (by lia)),zA2 ⟨by lia,by lia⟩,trivial⟩ λd hd=>?_;and_intros;refine⟨by have:=lc (lo:=none) (hi:=some b);show _+1<=1000;lia,?_⟩;and_intros;refine⟨by have:=lc (lo:=none) (hi:=some b);have:=lc (lo:=some (b+1)) (hi:=none);rw[z24];show _+1+_<=1000;lia,?_⟩;exact q _ (wM (xP (xP (vf it) (vQ hd)) (vf it)) (by rw[z24,z24];have:=lc (lo:=none) (hi:=some b);have:=lc (lo:=some (b+1)) (hi:=none);show _+1+_<=40;lia)).1
 and_intros;refine zv (λ_=>?_) (λ_=>?_)
 .and_intros;refine⟨by rw[L];show ds.length+1<=1000;lia,?_⟩;and_intros;refine⟨by rw[L];show 1+ds.length<=1000;lia,?_⟩;and_intros;exact xK rfl (by assumption) (by assumption) ⟨q _ (wM (vf it) (z05 lc (by lia))).1,q _ (wM (xP it (vQ (xk ⟨by lia,by lia⟩))) (by rw[z24];show _+1<=40;lia)).1,q _ (wM (xP (vQ (xk ⟨by lia,by lia⟩)) it) (by rw[z24];show 1+_<=40;lia)).1,trivial⟩
 .and_intros;exact q _ (wM it (by lia)).1
end
abbrev zt4 :An:=top 84
structure zR4 (x:Int)(ps:List P3)(pp:List Int):Prop where
 x0:0<=x
 x1:x<=300000000000000
 pl:ps.length<=14
 pn:0<ps.length
 sp:∀p∈ps,Sz 9000 1 (pD p)
 ln:0<pp.length
 ll:pp.length<=14
 bd:∀n∈pp,-300000000000000<=n/\n<=300000000000000
structure zT7 (ds:List Int):Prop where
 ln:0<ds.length
 ll:ds.length<=14
 bd:∀d∈ds,0<=d/\d<=1000000
def Told (d:Aa):Prop:=(∃(x:Int) (ps:List P3) (pp:List Int),d=.tuple [.str "had",.int x,.list (ps.map pD),.list (pp.map .int)]/\zR4 x ps pp)\/∃ds:List Int,d=.tuple [.str "off",.list (ds.map .int)]/\zT7 ds
def dA :Ph:=λas Q=>∃(c g:Int) (d:Aa),as=[.tape,.dat d,.dat (.tuple [.int c,.int g])]/\zG c g/\Told d/\∀a,ThB a->zS sizeLine a->Q (.dat a)
theorem ub {P:Aa->Prop}:∀{ts:List Aa},tK P ts->∀t∈ts,P t
 |_::_,h,t,a=>(zZ9.mp a).elim (λe=>by rw[e];exact h.1) (ub h.2 t)
def pU {ts:List Aa}(h:tK (Sz 400000 2) ts)(b:ts.length<=8)(c:∀s x cu pa,ts=[s,x,cu,pa]->ThC cu/\ThL pa)(h2:∀s da,ts=[s,da]->ThL da):ThB (.tuple ts)/\zS sizeLine (.tuple ts):=by
 have h:=ub h;have n:=(oP 8 4000000 h b (by decide) (by decide)).2.ni;exact⟨⟨n.nod,λa r e=>by cases e;exact(h a z03).ni.shaped,λs x cu pa e=>c s x cu pa (by cases e;rfl),λs da e=>h2 s da (by cases e;rfl)⟩,n.mono (by decide)⟩
def aV {d:Aa}(h:zS sizeLine d)(hd:∀ts,d≠.tuple ts):ThB d/\zS sizeLine d:=⟨⟨h.nod,λ_ _ e=>absurd e (hd _),λ_ _ _ _ e=>absurd e (hd _),λ_ _ e=>absurd e (hd _)⟩,h⟩
def nq {pp:List Int}(a:pp.length<=40)(h:∀n∈pp,-300000000000000000<=n/\n<=300000000000000000):Ok (.list (pp.map .int)):=(wM (λt b=>by
 obtain⟨n,hn,rfl⟩:=z33.mp b;exact xk (h n hn)) (by rw[zZ2];exact a)).1
def zo2 {s:Str}(a:s="had"\/s="off"):Builtin.Str.tooLong (upS s).cps.size=false/\(upS s).length<=sizeLine/\Sz 2000 0 (.str (upS s))/\s.length+Str.length " "<=sizeLine/\Sz 2000 0 (.str (s++" ")):=by
 rcases a with rfl|rfl<;>refine⟨?_,?_,vg ?_ ?_,?_,vg ?_ ?_⟩<;>decide +kernel
section
variable {P:Ag}{w:Ai}{K:Ac}{mg:Str->Option Ab}{base:Ao}{cs:Cs}
def aN (F:FnD K mg "_law_bent" zt4 ["_law_tape_here","_law_told","_law_stay_here"])(nb:NbT mg)(CD:Cal P w K mg base "_law_draw" 1 yL)(CP:Cal P w K mg base "_law_bent_paper" 2 zK0)(CB:Cal P w K mg base "_law_bent_days" 2 zK9):Cal P w K mg base "_law_bent" 3 dA:=by
 refine zN ["_law_tape_here","_law_told","_law_stay_here","_law_way","_law_things","_law_other","_law_words","_law_coins_here","_law_cuts","_law_more"] F λ_ _ _ _ _ _ _ _ Q nd hr h=>?_;obtain⟨c,g,d,rfl,sb,Y,q⟩:=h;have gt:∀ts,tK (Sz 400000 2) ts->ts.length<=8->(∀s x cu pa,ts=[s,x,cu,pa]->ThC cu/\ThL pa)->(∀s da,ts=[s,da]->ThL da)->Q (.dat (.tuple ts)):=λts a b e f=>q _ (pU a b e f).1 (pU a b e f).2;have gl:∀ts,tK (Sz 400000 2) ts->ts.length<=8->Q (.dat (.list ts)):=λts a b=>by
  have n:=(oP 8 4000000 (ub a) b (by decide) (by decide)).1.ni.mono (n:=sizeLine) (by decide);exact q _ (aV n (λ_ e=>by cases e)).1 n
 have sw:∀{x},Sz 2000 0 x->Sz 400000 2 x:=λh=>h.mono (by decide) (by decide);have B:Sz 2000 0 (.str "had"):=vg (by decide +kernel) (by decide +kernel);have v:Sz 2000 0 (.str "off"):=vg (by decide +kernel) (by decide +kernel);have s0:∀{i:Int},-300000000000000000<=i/\i<=300000000000000000->Sz 400000 2 (.int i):=λh=>sw (sW h);obtain⟨s,y,r,rfl,J,lr,X,S,T,C,E,e1,V⟩:∃s y r,d=.tuple (.str s::y::r)/\(s="had"\/s="off")/\r.length<=2/\Q (.dat (.tuple (L2.cutD (.str s::y::r) none (some (-1)))))/\Q (.dat (.tuple ((.str s::y::r)++[.int 0])))/\Q (.dat (.list (.str s::y::r)))/\¬(HT.sIx (PyData.str s::y::r).length 0 none=0/\HT.sIx (PyData.str s::y::r).length (PyData.str s::y::r).length (some (-1))=(PyData.str s::y::r).length)/\¬(HT.sIx (PyData.str s::y::r).length 0 (some 1)=0/\HT.sIx (PyData.str s::y::r).length (PyData.str s::y::r).length none=(PyData.str s::y::r).length)/\L2.cutD (.str s::y::r) (some 1) none=y::r/\∀a,Sz 400000 2 a->Q (.dat (.tuple (a::y::r))):=by
  rcases Y with⟨x,ps,pp,rfl,h⟩|⟨ds,rfl,h⟩
  .have sp:Sz 400000 2 (.list (ps.map pD)):=(oP 40 400000 (λd hd=>by
    obtain⟨p,k,rfl⟩:=z33.mp hd;exact h.sp p k) (by rw[zZ2];have:=h.pl;lia) (by decide) (by decide)).1
   have op:=nq (pp:=pp) (by have:=h.ll;lia) λn hn=>by have:=h.bd n hn;lia
   have G:Sz 400000 2 (.int x):=s0 (by have:=h.x0;have:=h.x1;lia);exact⟨_,_,_,rfl,.inl rfl,zZ8 _,gt [_,_,_] ⟨sw B,G,sp,trivial⟩ (z25 rfl) (λ_ _ _ _ e=>by cases e) (λ_ _ e=>by cases e),gt [_,_,_,_,_] ⟨sw B,G,sp,op.2,s0 (by decide),trivial⟩ (z25 rfl) (λ_ _ _ _ e=>by cases e) (λ_ _ e=>by cases e),gl _ ⟨sw B,G,sp,op.2,trivial⟩ (z25 rfl),(by show ¬(0=0/\3=4);decide),(by show ¬(1=0/\4=4);decide),rfl,λa ha=>gt _ ⟨ha,G,sp,op.2,trivial⟩ (z25 rfl) (λ_ _ _ _ e=>by cases e;exact⟨⟨ps,by have:=h.pl;lia,.inl rfl⟩,op.1⟩) (λ_ _ e=>by cases e)⟩
  .have op:=nq (pp:=ds) (by have:=h.ll;lia) λn hn=>by have:=h.bd n hn;lia
   exact⟨_,_,_,rfl,.inr rfl,z21 _,gt [_] ⟨sw v,trivial⟩ (z25 rfl) (λ_ _ _ _ e=>by cases e) (λ_ _ e=>by cases e),gt [_,_,_] ⟨sw v,op.2,s0 (by decide),trivial⟩ (z25 rfl) (λ_ _ _ _ e=>by cases e) (λ_ _ e=>by cases e),gl _ ⟨sw v,op.2,trivial⟩ (z25 rfl),(by show ¬(0=0/\1=2);decide),(by show ¬(1=0/\2=2);decide),rfl,λa ha=>gt _ ⟨ha,op.2,trivial⟩ (z25 rfl) (λ_ _ _ _ e=>by cases e) (λ_ _ e=>by cases e;exact op.1)⟩
 have ss:Sz 2000 0 (.str s):=by rcases J with rfl|rfl;exact B;exact v
 obtain⟨N,O⟩:Sz 400000 2 (.list [.str s])/\Sz 400000 2 (.tuple [.str s]):=by
  obtain⟨a,b⟩:=oP (ds:=[.str s]) 1 9000 (λd hd=>by rw[z06.mp hd];exact ss) (zZ8 _) (by decide) (by decide);exact⟨a.mono (by decide) (by decide),b.mono (by decide) (by decide)⟩
 and_intros;rename_i U w0 w1;refine zv (λ_=>?_) (λ_=>?_)
 .refine yf 4 nd (EvL.d (yK (zk (kO ?_))));and_intros;refine⟨C,?_⟩;refine zk (oI (zi 1 rfl ?_));and_intros;refine⟨(λz=>by cases z),by simp;lia,?_⟩;and_intros;exact xK rfl (by assumption) (by assumption) ⟨X,S,T,gt _ ⟨sw B,trivial⟩ (z25 rfl) (λ_ _ _ _ e=>by cases e) (λ_ _ e=>by cases e),gt _ trivial (z25 rfl) (λ_ _ _ _ e=>by cases e) (λ_ _ e=>by cases e),q _ (aV (vo.ni.mono (by decide)) (λ_ e=>by cases e)).1 (vo.ni.mono (by decide)),gt _ ⟨sw v,trivial⟩ (z25 rfl) (λ_ _ _ _ e=>by cases e) (λ_ _ e=>by cases e),gt _ ⟨O,trivial⟩ (z25 rfl) (λ_ _ _ _ e=>by cases e) (λ_ _ e=>by cases e),trivial⟩
 and_intros;refine zv (λ_=>?_) (λ_=>?_)
 .obtain⟨u1,u2,u3,c1,c2⟩:=zo2 J;refine yf 5 nd (xA ?_);refine yv (λL=>∃o,L=[some .tape,some (.dat (.tuple (.str s::y::r))),some (.dat (.tuple [.int c,.int g])),some (.dat (.int U)),none,some (.dat (.str o)),none,none,none,none]/\Sz 2000 0 (.str o)) ?_ ?_
  .and_intros;refine zv (λ_=>?_) (λ_=>?_)
   .and_intros;exact B
   .and_intros;exact v
  rintro L ⟨o,rfl,R⟩;refine yv (λL=>L=[some .tape,some (.dat (.tuple (.str s::y::r))),some (.dat (.tuple [.int c,.int g])),some (.dat (.int U)),none,some (.dat (.str o)),some (.dat (.list [.str (upS s),.str (s++" "),.str o,.none,.int 0,.list [.str s]])),none,none,none]) ?_ ?_
  .refine yf 6 nd (EvL.d (yK (zk (cO ?_))));and_intros;refine⟨u1,u2,?_⟩;refine zk (zf8 ?_);and_intros;refine⟨c1,?_⟩;and_intros;rfl
  rintro L rfl;refine yH (oI (oK (zk (wC hr.one (λ_ _=>rfl) (zi 6 rfl ?_)))));and_intros;refine wH (Sz 400000 2) rfl (by assumption) (by assumption) ⟨sw u3,sw c2,sw R,sw vo,s0 (by decide),N,trivial⟩ λa ha=>?_;refine zA ⟨_,rfl,z25 rfl,?_⟩;refine kO ?_;and_intros;refine⟨E,?_⟩;rw[e1];refine⟨_,_,rfl,rfl,(λz=>by cases z),by simp;lia,V a ha⟩
 clear X S T C E e1 V J lr;rcases Y with⟨x,ps,pp,e,h⟩|⟨ds,e,h⟩<;>cases e
 rotate_left
 .and_intros;refine⟨c,g,ds,rfl,sb,h.ln,h.ll,h.bd,λd hd=>?_⟩;and_intros;exact gt _ ⟨sw v,hd.2,trivial⟩ (z25 rfl) (λ_ _ _ _ e=>by cases e) (λ_ _ e=>by cases e;exact hd.1)
 obtain⟨x0,x1,pl,pn,sp,ln,ll,bd⟩:=h;have D:ThC (.list (ps.map pD)):=⟨ps,by lia,.inl rfl⟩;have A:∀{l:List P3},(∀p∈l,p∈ps)->l.length<=40->Sz 400000 2 (.list (l.map pD))/\Sz 400000 2 (.tuple (l.map pD)):=λ{l} Z hn=>oP 40 400000 (λd hd=>by
  obtain⟨p,k,rfl⟩:=z33.mp hd;exact sp p (Z p k)) (by rw[zZ2];exact hn) (by decide) (by decide)
 have u:=A (l:=ps) (λ_ h=>h) (by lia);have op:=nq (pp:=pp) (by lia) λn hn=>by have:=bd n hn;lia
 have I:∀{a cu pa},Sz 400000 2 a->Sz 400000 2 cu->ThC cu->Ok pa->Q (.dat (.tuple [.str "had",a,cu,pa])):=λha hc D k=>gt _ ⟨sw B,ha,hc,k.2,trivial⟩ (z25 rfl) (λ_ _ _ _ e=>by cases e;exact⟨D,k.1⟩) (λ_ _ e=>by cases e);and_intros;refine zv (λ_=>?_) (λ_=>?_)
 .and_intros;refine wH (λd=>∃m:Int,d=.int m/\-1<=m/\m<=1000000000001) rfl (by assumption) (by assumption) ⟨⟨_,rfl,by lia,by lia⟩,⟨_,rfl,by lia,by lia⟩,⟨_,rfl,by lia,by lia⟩,trivial⟩ ?_;rintro _ ⟨m,rfl,m0,m1⟩;and_intros;refine iF (by rfl) nb.str ?_;and_intros;refine⟨rB (by unfold big;lia) (by unfold big;lia),?_⟩;and_intros;refine wH (Sz 400000 2) rfl (by assumption) (by assumption) ⟨s0 ⟨by lia,by lia⟩,sw (jW _),sw vo,sw (zt8 x x0 (by lia)),trivial⟩ λa ha=>?_;and_intros;exact I ha u.1 D op
 and_intros;refine zv (λ_=>?_) (λ_=>?_)
 .and_intros;refine⟨by have:=ua (ds:=ps.map pD) (lo:=none) (hi:=some 1);rw[zZ2]at this ⊢;lia,?_⟩;refine zk (pH (by rfl) nb.tuple ?_);and_intros;refine wH (λd=>Sz 400000 2 d/\ThC d) rfl (by assumption) (by assumption) ⟨?_,?_,⟨u.2,ps,by lia,.inr rfl⟩,trivial⟩ λa ha=>?_
  .rw[uX _ (by decide),<-yk2];exact⟨(A (λp k=>yj4 k) (by rw[z88];lia)).1,_,by rw[z88];lia,.inl rfl⟩
  .rw[iH _ (by decide),<-yh0,<-z54];exact⟨(A (λp k=>(z44.mp k).elim id z91) (by rw[z24,z49];lia)).1,_,by rw[z24,z49];lia,.inl rfl⟩
  and_intros;exact I (s0 ⟨by lia,by lia⟩) ha.1 ha.2 op
 obtain⟨H,pr,rfl⟩:∃H pr,pp=H::pr:=by cases pp with|nil=>simp at ln|cons a l=>exact⟨a,l,rfl⟩
 and_intros;refine zv (λ_=>?_) (λ_=>?_)
 .and_intros;refine ixk rfl rfl (yn (j:=0) rfl) ?_;and_intros;have b0:=bd H z03;have lc:=ua (ds:=(H::pr).map PyData.int) (lo:=some 1) (hi:=none);rw[zZ2]at lc;refine⟨by show 1+_<=1000;lia,?_⟩;and_intros;refine I (s0 ?_) u.1 D (wM (xP (vQ (xk ?_)) (vf λt M=>?_)) ?_).1
  .exact⟨by lia,by lia⟩
  .exact⟨by lia,by lia⟩
  .obtain⟨n,hn,rfl⟩:=z33.mp M;have:=bd n hn;exact xk ⟨by lia,by lia⟩
  .rw[z24];show 1+_<=40
   lia
 refine zM ?_;refine yH (oI (kO ?_));and_intros;refine⟨(by show ¬(0=0/\3=4);decide),?_⟩;and_intros;refine⟨λt M=>?_,by rw[zZ2];exact ln,by rw[zZ2];exact ll,λd hd=>?_⟩
 .obtain⟨n,hn,rfl⟩:=z33.mp M;exact⟨n,rfl,bd n hn⟩
 and_intros;refine⟨(λz=>by cases z),z25 rfl,?_⟩;exact I (s0 ⟨by lia,by lia⟩) u.1 D hd
end
abbrev oF :An:=top 85
theorem zj8 {co:Co}{N:Nat}{a b z:Int}{ps:List Part}(h:Cut co N a b z ps):(∀p∈ps,a<=p.1/\p.1<p.2.1/\p.2.1<=b/\p.2.2<N)/\(ps.length:Int)<=b-a:=by
 induction h with
 |nil a=>exact⟨(λp c=>by cases c),by simp⟩
 |@cons a e b x y n ps h1 h2 h3 h d=>
  have hle:=h.le;obtain⟨d,l⟩:=d;refine⟨λp c=>?_,by rw[z28];lia⟩;rcases zZ9.mp c with rfl|c
  .exact⟨z90 _,h1,hle,h2⟩
  .obtain⟨i1,i2,i3,f⟩:=d p c;exact⟨by lia,i2,i3,f⟩
theorem mG {g:Int}:∀(l:List Int) (a:Int),l.Pairwise (·<·)->(∀d∈l,a<=d/\d<g)->(l.length:Int)<=max 0 (g-a)
 |[],_,_,_=>by simp;lia
 |x::l,a,b,hb=>by
  have h1:=hb x z03;have:=mG l (x+1) (z74.mp b).2 λd hd=>⟨(z74.mp b).1 d hd,(hb d (z01 _ hd)).2⟩;rw[z28]
  lia
def gq {Bs:List (List Aa)}{c g:Int}(a:zI Bs)(bl:Bs.length<=8)(j:zG c g):Told (bestOf Bs c g):=by
 obtain⟨v,w,g1,g2⟩:=id j;rcases rz a j with⟨x,ps,pp,h⟩|⟨ds,h⟩
 .obtain⟨pa,pl⟩:=zj8 h.cut;have o:=zf5 h.cut λm b e y hm hy=>(vY a hm hy).2.2.2;have ln:=h.plen;refine .inl ⟨x,ps.map p3,pp,by rw[zu3];exact h.eq,o.1,by lia,by rw[zZ2];lia,?_,λp s=>?_,by lia,by lia,h.pbd⟩
  .rw[zZ2];cases ps with
   |nil=>
    have:=h.cut;cases this
    lia
   |cons _ _=>simp
  .obtain⟨q,hq,rfl⟩:=z33.mp s;obtain⟨i1,i2,i3,u⟩:=pa q hq;have f:∀{i:Int},0<=i/\i<=1000000->Sz 2000 0 (.int i):=λh=>sW (by lia);exact(oP (n:=2000) (k:=0) 3 9000 (ub (ts:=[.int q.1,.int q.2.1,.int (q.2.2:Int)]) ⟨f (by lia),f (by lia),f (by lia),trivial⟩) (zZ8 _) (by decide) (by decide)).2
 .have l:=mG ds c h.sort h.rng;obtain⟨r,t⟩:=h.first;exact .inr ⟨ds,h.eq,by rw[t];simp,by lia,λd hd=>by have:=h.rng d hd;lia⟩
def zk8 {d:Aa}(h:Told d):ThB d:=by
 have sw:∀{x},Sz 2000 0 x->Sz 400000 2 x:=λh=>h.mono (by decide) (by decide);rcases h with⟨x,ps,pp,rfl,h⟩|⟨ds,rfl,h⟩
 .have op:=nq (pp:=pp) (by have:=h.ll;lia) λn hn=>by have:=h.bd n hn;lia
  have sp:Sz 400000 2 (.list (ps.map pD)):=(oP 40 400000 (λd hd=>by
   obtain⟨p,a,rfl⟩:=z33.mp hd;exact h.sp p a) (by rw[zZ2];have:=h.pl;lia) (by decide) (by decide)).1
  exact(pU (ts:=[_,_,_,_]) ⟨sw (vg (by decide +kernel) (by decide +kernel)),sw (sW (by have:=h.x0;have:=h.x1;lia)),sp,op.2,trivial⟩ (z25 rfl) (λ_ _ _ _ e=>by cases e;exact⟨⟨ps,by have:=h.pl;lia,.inl rfl⟩,op.1⟩) (λ_ _ e=>by cases e)).1
 .have op:=nq (pp:=ds) (by have:=h.ll;lia) λn hn=>by have:=h.bd n hn;lia
  exact(pU (ts:=[_,_]) ⟨sw (vg (by decide +kernel) (by decide +kernel)),op.2,trivial⟩ (z25 rfl) (λ_ _ _ _ e=>by cases e) (λ_ _ e=>by cases e;exact op.1)).1
noncomputable abbrev nLa :List Str:=["_law_script","_law_tape_here","_law_days","_law_base","_law_books_here","_law_turn","_law_stay_here","_law_told","_law_k","_law_thing","_law_kept","_law_by"]
def zN9 :ya nLa ["_law_script"] (zh oF):=.o
section
variable {P:Ag}{w:Ai}{K:Ac}{mg:Str->Option Ab}{base:Ao}{cs:Cs}
noncomputable abbrev stL (C:Ae)(cs:Cs)(a b:Int)(Bs:List (List Aa))(r:Nat->Option A):Ev:=[none,some .tape,some (.dat (.int a)),some (.dat (.int b)),some (.dat (zx C cs Bs)),r 0,r 1,r 2,r 3,r 4,r 5,r 6]
def zI0 {f fT C:Ae}{fd n:Ap}(F:Fun K "law" "law" oF f fd)(nb:NbT mg)(GT:yE P w K mg base CX0 1 fT n ["_law_script"] (kC K))(O:mg "_law_tape"=some (.ref fT))(M:PySem.W.keepIn K (.ref fT)=true)(I:Binds K n ["_law_script"] [])
  (Z:Cal P w K mg base "_law_draw" 1 yL) (T:Cal P w K mg base "_law_books" 11 (ir C cs)) (X:Cal P w K mg base "_law_stay" 2 cD) (G:Cal P w K mg base "best" 9 (ba C cs)) (U:Cal P w K mg base "lets_by" 10 (cn C cs)) (D:Cal P w K mg base "_law_due" 8 (zx1 C cs)) (R:Cal P w K mg base "_law_bent" 3 dA):
  yE P w K mg base CX0 14 f fd ["_law_script"] (nR K):=by
 refine zW1 (k:=12) F zN9 GT O M I rfl rfl (Or.inl rfl) (Or.inl rfl) (λcdv V outer s H E hr=>?_);have nd:=zN9.nd;and_intros;refine⟨⟨by decide,by decide +kernel⟩,?_⟩;rename_i v1 a1 v v2 a2 B v3 J Q;refine wH (λd=>∃l:Int,d=.int l/\2<=l/\l<=14) rfl (by lia) (by show _<(2:Int);lia) ⟨⟨_,rfl,by lia,by lia⟩,⟨_,rfl,by lia,by lia⟩,trivial⟩ ?_;rintro _ ⟨l,rfl,Y,d1⟩;clear a1 v a2 B J Q;and_intros;refine wH (λd=>∃b:Int,d=.int b/\0<=b/\b<=999980) rfl (by assumption) (by assumption) ⟨⟨_,rfl,by lia,by lia⟩,⟨_,rfl,by lia,by lia⟩,⟨_,rfl,by lia,by lia⟩,trivial⟩ ?_;rintro _ ⟨b,rfl,N,v⟩;have bd:Bd b l:=⟨N,v,by lia,by lia⟩;and_intros;refine⟨b,l,rfl,bd,λBs a t p q=>?_⟩;refine yv (λL=>∃Bs:List (List Aa),L=stL C cs l b Bs (λ_=>none)/\zI Bs/\Bs.length<=4) ?_ ?_
 .and_intros;refine zv (λ_=>?_) (λ_=>?_)
  .and_intros;refine⟨Bs.take 2,?_,λd hd=>a d (z91 hd),by rw[z49];lia⟩;rw[iH _ (by decide),<-yh0];rfl
  .and_intros;exact⟨a,p⟩
 clear a t p q Bs;rintro L ⟨Bs,rfl,a,bl⟩;have bl:Bs.length<=8:=by lia
 refine zQ (.one 5) (xx (by rfl) nb.range ?_);and_intros;refine⟨by split<;>lia,by split<;>lia,?_⟩;refine zB (λi L=>∃r:Nat->Option A,L=stL C cs l b Bs r) ⟨λ_=>none,rfl⟩ ?_ ?_
 .rintro i d L hd ⟨r,rfl⟩;refine⟨_,rfl,?_⟩;and_intros;refine⟨b,l,rfl,bd,λc g m=>?_⟩;and_intros;refine⟨Bs,c,g,rfl,a,bl,m,λS=>?_⟩;have y:=gq a bl m;have o:=zk8 y;have z:=lj (bS a m);and_intros;refine⟨Bs,c,g,bestOf Bs c g,rfl,a,bl,m,o,?_⟩;rw[z];and_intros;refine⟨Bs,c,g,bestOf Bs c g,rfl,a,bl,m,o,?_⟩;rw[z];and_intros;refine zQ (.one 8) (xx (by rfl) nb.range ?_);and_intros;refine⟨by decide,by decide,?_⟩;refine zB (λj L=>∃h:Nat->Option A,L=[none,some .tape,some (.dat (.int l)),some (.dat (.int b)),some (.dat (zx C cs Bs)),some (.dat d),some (.dat (.tuple [.int c,.int g])),some (.dat (bestOf Bs c g)),h 0,h 1,h 2,h 3]) ⟨λi=>r (i+3),rfl⟩ ?_ ?_
  .rintro j e L he ⟨h,rfl⟩;refine⟨_,rfl,?_⟩;and_intros;refine⟨c,g,_,rfl,m,y,λu o ni=>?_⟩;and_intros;refine⟨ni,?_⟩;and_intros;refine⟨Bs,c,g,_,rfl,a,bl,m,o,?_⟩;and_intros;refine⟨Bs,c,g,_,rfl,a,bl,m,o,?_⟩;have self:∀x:Bool,(!(PyData.eqv (.bool x) (.bool x)))=false:=λx=>by cases x<;>rfl
   and_intros;refine zu6 (self _) ?_;and_intros;refine⟨ni,?_⟩;and_intros;refine tY (by rw[z39 rfl];rfl) ?_;refine zM (zM ?_);exact⟨λi=>[some (.dat e),some (.dat u),some (.dat (.str u.shown)),some (.dat (.bool (tr (Let Bs c g u))))].getD i none,rfl⟩
  .rintro L ⟨h,rfl⟩;refine zM ?_;exact⟨λi=>[some (.dat d),some (.dat (.tuple [.int c,.int g])),some (.dat (bestOf Bs c g)),h 0,h 1,h 2,h 3].getD i none,rfl⟩
 .rintro L ⟨r,rfl⟩;and_intros;rfl
end
def us1 {L:Type}{p:List L->Prop}(h:∀a,p [a])(us:List L)(b:us.length=1):p us:=by
 obtain⟨a,rfl⟩:=List.length_eq_one_iff.mp b;exact h a
theorem us2 {L:Type}{p:List L->Prop}(h:∀a b,p [a,b])(us:List L)(c:us.length=2):p us:=by
 cases us with
 |nil=>cases c
 |cons a us=>exact us1 (p:=λus=>p (a::us)) (h a) us (Nat.succ.inj c)
theorem us3 {L:Type}{p:List L->Prop}(h:∀a b c,p [a,b,c])(us:List L)(d:us.length=3):p us:=by
 cases us with
 |nil=>cases d
 |cons a us=>exact us2 (p:=λus=>p (a::us)) (h a) us (Nat.succ.inj d)
theorem us4 {L:Type}{p:List L->Prop}(h:∀a b c d,p [a,b,c,d])(us:List L)(e:us.length=4):p us:=by
 cases us with
 |nil=>cases e
 |cons a us=>exact us3 (p:=λus=>p (a::us)) (h a) us (Nat.succ.inj e)
theorem us5 {L:Type}{p:List L->Prop}(h:∀a b c d e,p [a,b,c,d,e])(us:List L)(f:us.length=5):p us:=by
 cases us with
 |nil=>cases f
 |cons a us=>exact us4 (p:=λus=>p (a::us)) (h a) us (Nat.succ.inj f)
def FnF (K:Ac)(f:Ae)(nm a:Str)(st:An)(ps:List Str):Prop:=∃fd,Fun K nm a st f fd/\Binds K fd ps []
section
variable {K:Ac}{h0:Ao}{mg:Str->Option Ab}{f:Ae}{nm ql:Str}{st:An}{ps:List Str}{oc kV dc pm cd ct:Ab}{od an:Option Ae}{sl:Array (Option Ab)}
def mkF (l:K.lookup f=some ⟨oc,od,.func (PySem.W.fnOf nm ql (zT st) (zt st) (zh st) .none kV dc pm an cd ct),sl⟩)(c:PySem.W.codeIn K cd ql=true)(k:PySem.W.keepIn K (.ref f)=true)
  (hb:∀(kV doc pm:Ab) (an:Option Ae) (cdv ct:Ab) (us:List Ab),us.length=ps.length->bindArgs (PySem.W.fnOf nm ql (zT st) (zt st) (zh st) .none kV doc pm an cdv ct) ⟨us,[]⟩=pure (ps.zip us):=by intro _ _ _ _ _ _;first|exact K54.us1 λ_=>rfl|exact K54.us2 λ_ _=>rfl|exact K54.us3 λ_ _ _=>rfl|exact K54.us4 λ_ _ _ _=>rfl|exact K54.us5 λ_ _ _ _ _=>rfl):FnF K f nm ql st ps:=⟨_,oe l c k,(oe l c k).binds hb⟩
def mkG (X:K.In h0)(G:h0.Ns Ah mg)(a:PySem.W.nsIn K Ah nm=some (some (.ref f)))(q:FnF K f nm nm st ps):FnD K mg nm st ps:=by
 obtain⟨_,F,b⟩:=q;exact⟨f,_,F,z59 X G a,b⟩
end
def mkR {K:Ac}{C b gt ge a:Ae}(pg:PySem.W.plainGet K C Str.empty=true)(hd:PySem.W.hasDictIn K C=true)(po:PySem.W.plainOver K C=true)(sa:PySem.W.findIn K (.ref C) "__setattr__"=some (some (.builtin "object.__setattr__")))(n1:PySem.W.findIn K (.ref C) "first"=some none)(c:PySem.W.findIn K (.ref C) "last"=some none)(h:PySem.W.findIn K (.ref C) "worth"=some none)(mk:PySem.W.makesIn K C=true)(f1:PySem.W.findIn K (.ref C) "__init__"=some (some (.ref b)))(i1:PySem.W.isFn K (.ref b)=true)(j:PySem.W.keepIn K (.ref C)=true)(f2:PySem.W.findIn K (.ref C) "told"=some (some (.ref gt)))(i2:PySem.W.isFn K (.ref gt)=true)(g:PySem.W.keepIn K (.ref gt)=true)(e:PySem.W.findIn K (.ref C) "tells"=some (some (.ref ge)))(i3:PySem.W.isFn K (.ref ge)=true)(i:PySem.W.keepIn K (.ref ge)=true)(f4:PySem.W.findIn K (.ref C) "word"=some (some (.ref a)))(f:PySem.W.isFn K (.ref a)=true)(d:PySem.W.keepIn K (.ref a)=true):rJ K C b gt ge a:=⟨⟨pg,hd,po,sa⟩,n1,c,h,⟨mk,f1,i1,j⟩,⟨f2,i2,g⟩,⟨e,i3,i⟩,⟨f4,f,d⟩⟩
theorem fH {K:Ac}{dT:Ae}{oc kV doc pm cdv ct:Ab}{od an:Option Ae}{n:Nat}{sl:Array (Option Ab)}(b:K.lookup dT=some ⟨oc,od,.seq #[.none] n,sl⟩):
  Binds K (PySem.W.fnOf "__init__" "Book.__init__" (zT xh) (zt xh) (zh xh) (.ref dT) kV doc pm an cdv ct) ["self","rules"] [.none]:=λs us hk a=>by
 match us,(show us.length=1 by rw[z24]at a;simpa using a)with
 |[u],_=>exact BindsTo.of_defaults (T:=dT) rfl (hk _ _ b) rfl rfl rfl
theorem fP {K:Ac}{dT:Ae}{oc kV doc pm cdv ct:Ab}{od an:Option Ae}{n:Nat}{sl:Array (Option Ab)}(b:K.lookup dT=some ⟨oc,od,.seq #[.none] n,sl⟩):
  Binds K (PySem.W.fnOf "__init__" "Book.__init__" (zT xh) (zt xh) (zh xh) (.ref dT) kV doc pm an cdv ct) ["self","rules"] []:=λs us hk a=>by
 rw[z73]at a ⊢
 match us,a with
 |[u,v],_=>exact BindsTo.of_defaults (T:=dT) rfl (hk _ _ b) rfl rfl rfl
def zF8 {P:Str->Prop}(h1:P "price")(h2:P "come")(h3:P "go")(e:P "least")(b:P "most")(c:P "deal")(d:P "fee"):∀u∈words,P u:=by
 intro u a;simp only[words,zZ9,z31,z57]at a;rcases a with rfl|rfl|rfl|rfl|rfl|rfl|rfl<;>assumption
def all_mk {l:PySem.W.OpenLaw}{w:Ai}{K:Ac}{h:Ao}{mg:Str->Option Ab}{fa cC j4 l1 m p c b4 d5 h1 b5 d3 c9 e5 a g a3 b d j y CB dT k S dU:Ae}(X:K.In h)(G:h.Ns Ah mg)(w7:mg "law"=some (.ref fa))
  {n6 m1 m6 k3 s7 r2 v9:Option Ae} {o6 n4 v4 r5:Array (Option Ab)} {n1 p8 o0 o3 p4 p6 k0 j9 k1 k4 g4 u1 q1 s3 w2 s1 n8 s4:Ab} {n3 l2 o8 m9 p9 s2 u0 x4 x9 w6 r3 w1 u3 o7:Tok} {l9 p1 o5 n7 p0 m2 p2:Int} {nT nU:Nat}
  (x:FnD K mg "is_whole" kL ["thing"])
  (B:FnD K mg "is_whole_within" iE ["thing","lowest","highest"])
  (d9:FnD K mg "is_pair" zy8 ["thing"])
  (g0:FnD K mg "is_day" zP3 ["thing"])
  (D:FnD K mg "is_pair_of_days" zs7 ["thing"])
  (a7:FnD K mg "is_stretch" nv ["thing"])
  (d4:FnD K mg "is_coins" cb ["thing"])
  (e0:FnD K mg "is_deal" gc ["thing"])
  (d2:FnD K mg "is_worth" cP ["word","thing"])
  (d7:FnD K mg "is_rule" iG ["thing"])
  (i9:FnD K mg "made" zz6 ["word","first","last","worth"])
  (d8:FnD K mg "rule_of" hG ["thing"])
  (c6:FnD K mg "nights_of" hU ["stay"])
  (u5:PySem.W.nsIn K Ah "cheapest_first"=some (some (.ref j4)))
  (p3:K.lookup j4=some ⟨n1,n6,.func (PySem.W.fnOf "cheapest_first" "cheapest_first" (zT yF) (zt yF) (zh yF) .none p8 o0 o3 m1 (.ref cC) p4),o6⟩)
  (m3:PySem.W.codeIn K (.ref cC) "cheapest_first"=true)
  (p7:PySem.W.keepIn K (.ref j4)=true)
  (g1:FnD K mg "marked" ug ["prices","deal"])
  (U:FnD K mg "night_prices" sNP ["book","nights"])
  (j1:FnD K mg "bill" sF ["book","stay"])
  (j2:FnD K mg "bars" nX ["book","stay"])
  (a6:FnD K mg "can_be_had" zQ6 ["book","stay"])
  (i3:FnD K mg "cost" zu1 ["book","stay"])
  (V:FnD K mg "cost_or_none" zL4 ["book","stay"])
  (e3:FnD K mg "is_part" jV ["books","stay","thing"])
  (f0:FnD K mg "is_cut" za7 ["books","stay","thing"])
  (c1:FnD K mg "cut_coins" zv9 ["books","cut"])
  (t:FnD K mg "is_list_of_wholes" zR3 ["thing"])
  (R:FnD K mg "costs_no_less" zN4 ["books","stay","coins"])
  (r:FnD K mg "no_part_costs_less" zN1 ["books","stay","paper"])
  (f4:FnD K mg "is_had" cV ["books","stay","coins","cut","paper"])
  (c4:FnD K mg "leads_out" bh ["books","day","go","days"])
  (E:FnD K mg "is_rising_from" hV ["days","first"])
  (f3:FnD K mg "is_off" dh ["books","stay","days"])
  (e2:FnD K mg "lets_by" zv1 ["books","stay","thing"])
  (i1:FnD K mg "usual" dW ["word"])
  (b1:FnD K mg "kept_rules" zz9 ["things"])
  (d1:FnD K mg "arrivals" zU2 ["books","ways","day"])
  (a5:FnD K mg "least_ways" sLW ["books","stay"])
  (e6:FnD K mg "cut_of" cE ["ways","stay"])
  (d0:FnD K mg "paper_of" za8 ["ways","stay"])
  (j6:FnD K mg "best" zt9 ["books","stay"])
  (b9:FnD K mg "_law_tape" pj ["_law_script"])
  (c3:FnD K mg "_law_draw" ab ["_law_tape_here","_law_many"])
  (a4:FnD K mg "_law_coins" jK ["_law_tape_here"])
  (a9:FnD K mg "_law_worth" jt ["_law_tape_here","_law_word"])
  (z:FnD K mg "_law_price_rules" jz ["_law_tape_here","_law_base","_law_days"])
  (A:FnD K mg "_law_other_rules" iV ["_law_tape_here","_law_base","_law_days"])
  (b0:FnD K mg "_law_rules" jX ["_law_tape_here","_law_base","_law_days"])
  (c5:FnD K mg "_law_stay" zy5 ["_law_tape_here","_law_base","_law_days"])
  (b2:FnD K mg "_law_books" jQ ["_law_tape_here","_law_base","_law_days"])
  (a8:FnD K mg "_law_whole" zM0 ["_law_thing"])
  (a0:FnD K mg "_law_is_cut" zt1 ["_law_books_here","_law_stay_here","_law_cut"])
  (Q:FnD K mg "_law_is_paper" zy6 ["_law_books_here","_law_stay_here","_law_coins_here","_law_paper"])
  (T:FnD K mg "_law_is_shut" zf4 ["_law_books_here","_law_stay_here","_law_days"])
  (Z:FnD K mg "_law_wholes" zT2 ["_law_thing"])
  (c7:FnD K mg "_law_due" zO6 ["_law_books_here","_law_stay_here","_law_thing"])
  (C:FnD K mg "_law_bent_paper" sBP ["_law_tape_here","_law_paper"])
  (J:FnD K mg "_law_bent_days" sBD ["_law_tape_here","_law_days","_law_stay_here"])
  (b8:FnD K mg "_law_bent" zt4 ["_law_tape_here","_law_told","_law_stay_here"])
  (v7:PySem.W.nsIn K Ah "law"=some (some (.ref l1)))
  (v8:K.lookup l1=some ⟨p6,m6,.func (PySem.W.fnOf "law" "law" (zT oF) (zt oF) (zh oF) .none k0 j9 k1 k3 g4 k4),n4⟩)
  (x0:PySem.W.codeIn K g4 "law"=true)
  (u6:PySem.W.keepIn K (.ref l1)=true)
  (g6:PySem.W.nsIn K Ah "Price"=some (some (.ref a)))
  (i4:PySem.W.nsIn K Ah "Come"=some (some (.ref g)))
  (m4:PySem.W.nsIn K Ah "Go"=some (some (.ref a3)))
  (g9:PySem.W.nsIn K Ah "Least"=some (some (.ref b)))
  (i7:PySem.W.nsIn K Ah "Most"=some (some (.ref d)))
  (j0:PySem.W.nsIn K Ah "Deal"=some (some (.ref j)))
  (l3:PySem.W.nsIn K Ah "Fee"=some (some (.ref y)))
  (M:rJ K a m p c b4)
  (Y:rJ K g m p c d5)
  (h9:rJ K a3 m p c h1)
  (N:rJ K b m p c b5)
  (a1:rJ K d m p c d3)
  (a2:rJ K j m p c c9)
  (c8:rJ K y m p c e5)
  (j8:FnF K m "__init__" "Rule.__init__" zz7 ["self","first","last","worth"])
  (h2:FnF K c "tells" "Rule.tells" za0 ["self","day"])
  (f2:FnF K b4 "word" "Price.word" zp4 ["self"])
  (h0:FnF K d5 "word" "Come.word" zI9 ["self"])
  (l0:FnF K h1 "word" "Go.word" zX9 ["self"])
  (f6:FnF K b5 "word" "Least.word" zp3 ["self"])
  (i0:FnF K d3 "word" "Most.word" zE3 ["self"])
  (i2:FnF K c9 "word" "Deal.word" zH6 ["self"])
  (j7:FnF K e5 "word" "Fee.word" zR7 ["self"])
  (t6:PySem.W.nsIn K Ah "Book"=some (some (.ref CB)))
  (f9:PySem.W.findIn K (.ref CB) "__init__"=some (some (.ref k)))
  (f1:PySem.W.isFn K (.ref k)=true)
  (h7:K.lookup k=some ⟨u1,s7,.func (PySem.W.fnOf "__init__" "Book.__init__" (zT xh) (zt xh) (zh xh) (.ref dT) q1 s3 w2 r2 n8 s1),v4⟩)
  (h3:PySem.W.codeIn K n8 "Book.__init__"=true)
  (h5:PySem.W.keepIn K (.ref k)=true)
  (lT:K.lookup dT=some ⟨s4,v9,.seq #[.none] nT,r5⟩)
  (e1:PySem.W.findIn K (.ref CB) "tells_of"=some (some (.ref S)))
  (d6:PySem.W.isFn K (.ref S)=true)
  (e9:FnF K S "tells_of" "Book.tells_of" jF ["self","word","day"])
  (s5:PySem.W.plainGet K CB Str.empty=true)
  (v2:PySem.W.hasDictIn K CB=true)
  (y6:PySem.W.plainOver K CB=true)
  (t2:PySem.W.findIn K (.ref CB) "__setattr__"=some (some (.builtin "object.__setattr__")))
  (y4:PySem.W.makesIn K CB=true)
  (w8:PySem.W.keepIn K (.ref CB)=true)
  (p5:PySem.W.findIn K (.ref CB) "kept"=some none)
  (z1:PySem.W.nsIn K Ah "abs"=some none)
  (z2:PySem.W.nsIn K Ah "list"=some none)
  (z3:PySem.W.nsIn K Ah "len"=some none)
  (z4:PySem.W.nsIn K Ah "range"=some none)
  (z5:PySem.W.nsIn K Ah "min"=some none)
  (z6:PySem.W.nsIn K Ah "max"=some none)
  (z7:PySem.W.nsIn K Ah "sorted"=some none)
  (z8:PySem.W.nsIn K Ah "isinstance"=some none)
  (z9:PySem.W.nsIn K Ah "int"=some none)
  (x2:PySem.W.nsIn K Ah "bool"=some none)
  (x6:PySem.W.nsIn K Ah "str"=some none)
  (y0:PySem.W.nsIn K Ah "tuple"=some none)
  (q5:PySem.W.nsIn K Ah "all"=some none)
  (y7:PySem.W.nsIn K Ah "any"=some none)
  (r8:PySem.W.nsIn K Ah "repr"=some none)
  (y3:PySem.W.nsIn K Ah "zip"=some none)
  (s0:PySem.W.nsIn K Ah "enumerate"=some none)
  (w9:PySem.W.nsIn K Ah "reversed"=some none)
  (t1:PySem.W.nsIn K Ah "sum"=some none)
  (q7:PySem.W.nsIn K Ah "set"=some none)
  (t7:PySem.W.nsIn K Ah "LAST_DAY"=some (some (.int 1000000 n3)))
  (o2:PySem.W.nsIn K Ah "MOST_NIGHTS"=some (some (.int 14 l2)))
  (w3:PySem.W.nsIn K Ah "MOST_COINS"=some (some (.int 1000000000000 o8)))
  (q9:PySem.W.nsIn K Ah "MOST_RULES"=some (some (.int 24 m9)))
  (aU:PySem.W.nsIn K Ah "USUAL"=some (some (.ref dU)))
  (lU:K.lookup dU=some ⟨.type "dict",none,.dict #[⟨l9,.str "price" p9,.none⟩,⟨p1,.str "come" s2,.bool true⟩,⟨o5,.str "go" u0,.bool true⟩,⟨n7,.str "least" x4,.int 1 w1⟩,⟨p0,.str "most" x9,.int 14 u3⟩,⟨m2,.str "deal" w6,.none⟩,⟨p2,.str "fee" r3,.int 0 o7⟩] nU,#[]⟩)
  (v3:l9=hashStr w "price")
  (x1:p1=hashStr w "come")
  (s6:o5=hashStr w "go")
  (z0:n7=hashStr w "least")
  (v6:p0=hashStr w "most")
  (y9:m2=hashStr w "deal")
  (x5:p2=hashStr w "fee")
  (hhd:PySem.W.codeHdIn K cC yx=true):
  ∃fd:Ap,(∀(s:Ad) (v:Ab),BindsTo s fd ⟨[v],[]⟩ [("_law_script",v)])/\∀base:Ao,K.In base->base.Ns Ah mg->base.BuiltinsAt mg yx->yE l.prog w K mg base CX0 14 fa fd ["_law_script"] (nR K):=by
 have e:=w7.symm.trans (z59 X G v7);cases e;have nb:NbT mg:=⟨z37 X G z1,z37 X G z2,z37 X G z3,z37 X G z4,z37 X G z5,z37 X G z6,z37 X G z7,z37 X G z8,z37 X G z9,z37 X G x2,z37 X G x6,z37 X G y0,z37 X G q5,z37 X G y7,z37 X G r8,z37 X G y3,z37 X G s0,z37 X G w9,z37 X G t1⟩;have l5:mg "set"=none:=z37 X G q7;have I:mg "cheapest_first"=some (.ref j4):=z59 X G u5;have L:=oe (st:=yF) p3 m3 p7;have O:=L.binds (ps:=["prices","places"]) λ_ _ _ _ _ _=>us2 λ_ _=>rfl;obtain⟨_,_,H,c2,b6⟩:=b9;obtain⟨_,_,F,c0,b7⟩:=c3;have h6:=oe (st:=oF) v8 x0 u6;have r7:=h6.binds (ps:=["_law_script"]) λ_ _ _ _ _ _=>us1 λ_=>rfl;obtain⟨_,q,n⟩:=j8;obtain⟨_,i,f⟩:=h2;obtain⟨_,e8,e7⟩:=f2;obtain⟨_,g7,g5⟩:=h0;obtain⟨_,k9,k8⟩:=l0;obtain⟨_,f8,g2⟩:=f6;obtain⟨_,h4,g8⟩:=i0;obtain⟨_,h8,g3⟩:=i2;obtain⟨_,j3,i8⟩:=j7;obtain⟨_,b3,f5⟩:=e9;have TT:zJ7 mg:=⟨nb.abs,nb.list,nb.len⟩;refine⟨PySem.W.fnOf "law" "law" (zT oF) (zt oF) (zh oF) .none k0 j9 k1 k3 g4 k4,λs v=>.of_eq rfl,λbase KX _ hbi=>?_⟩;have j5:=yX (P:=l.prog) (w:=w) (base:=base) M (z59 X G g6) q n;have l6:=yX (P:=l.prog) (w:=w) (base:=base) Y (z59 X G i4) q n;have t5:=yX (P:=l.prog) (w:=w) (base:=base) h9 (z59 X G m4) q n;have i5:=yX (P:=l.prog) (w:=w) (base:=base) N (z59 X G g9) q n;have l7:=yX (P:=l.prog) (w:=w) (base:=base) a1 (z59 X G i7) q n;have k7:=yX (P:=l.prog) (w:=w) (base:=base) a2 (z59 X G j0) q n;have n0:=yX (P:=l.prog) (w:=w) (base:=base) c8 (z59 X G l3) q n;have k6:=jw (P:=l.prog) (w:=w) (base:=base) x nb;have i6:=kU B k6;have m0:=dH (P:=l.prog) (w:=w) (base:=base) d9 nb;have u8:=gL g0 ⟨n3,z59 X G t7⟩ i6;have y8:=mH a7 (dM D m0 u8);have q2:=mi d4 ⟨o8,z59 X G w3⟩ i6;have q8:=kK e0 ⟨l2,z59 X G o2⟩ m0 i6;have u2:=ki d7 nb y8 (mY d2 nb ⟨l2,z59 X G o2⟩ i6 q2 q8);have q3:=ji d8 u2 (dr (cs:=⟨a,g,a3,b,d,j,y⟩) i9 j5 l6 t5 i5 l7 k7 n0);have w4:=ze4 b1 nb ⟨m9,z59 X G q9⟩ q3;have cB:Cls K CB:=⟨s5,v2,y6,t2⟩;have m7:=cW (zg9 (st:=xh) h7 h3 h5) cB p5 w4;have e4:mg "Book"=some (.ref CB):=z59 X G t6;have l8:Mk K CB k:=⟨y4,f9,f1,w8⟩;have r6:uN l.prog w K mg base "Book" 9 [] (oN CB ⟨a,g,a3,b,d,j,y⟩):=⟨CB,k,_,_,_,e4,l8,fP lT,.nil,m7⟩;have CBk0:uN l.prog w K mg base "Book" 9 [.non] (oN CB ⟨a,g,a3,b,d,j,y⟩):=⟨CB,k,_,_,_,e4,l8,fH lT,.cons rfl .nil,m7⟩;have OW:∀u∈words,uv l.prog w K mg base ((⟨a,g,a3,b,d,j,y⟩:Cs).of u) "word" 1 (kY ((⟨a,g,a3,b,d,j,y⟩:Cs).of u) u):=zF8 (yV M e8 e7 .o rfl) (yV Y g7 g5 .o rfl) (yV h9 k9 k8 .o rfl) (yV N f8 g2 .o rfl) (yV a1 h4 g8 .o rfl) (yV a2 h8 g3 .o rfl) (yV c8 j3 i8 .o rfl);have DU:iK K w dU tbU:=⟨_,nU,lU,.cons ⟨v3,⟨_,rfl⟩,rfl⟩ (.cons ⟨x1,⟨_,rfl⟩,rfl⟩ (.cons ⟨s6,⟨_,rfl⟩,rfl⟩ (.cons ⟨z0,⟨_,rfl⟩,⟨_,rfl⟩⟩ (.cons ⟨v6,⟨_,rfl⟩,⟨_,rfl⟩⟩ (.cons ⟨y9,⟨_,rfl⟩,rfl⟩ (.cons ⟨x5,⟨_,rfl⟩,⟨_,rfl⟩⟩ (.nil))))))),by decide +kernel⟩;have CU:=gU (P:=l.prog) (base:=base) i1 (z59 X G aU) DU;have q6:∀u∈words,uv l.prog w K mg base ((⟨a,g,a3,b,d,j,y⟩:Cs).of u) "tells" 1 (rG ((⟨a,g,a3,b,d,j,y⟩:Cs).of u)):=zF8 (yr M i f) (yr Y i f) (yr h9 i f) (yr N i f) (yr a1 i f) (yr a2 i f) (yr c8 i f);have OC:∀u∈words,Cls K ((⟨a,g,a3,b,d,j,y⟩:Cs).of u)/\yG K ((⟨a,g,a3,b,d,j,y⟩:Cs).of u) "worth":=zF8 (⟨M.cl,M.nw⟩) (⟨Y.cl,Y.nw⟩) (⟨h9.cl,h9.nw⟩) (⟨N.cl,N.nw⟩) (⟨a1.cl,a1.nw⟩) (⟨a2.cl,a2.nw⟩) (⟨c8.cl,c8.nw⟩);have l4:=kJ cB p5 ⟨e1,d6,b3.kp⟩ b3 f5 nb CU OW q6 OC;have CD:Cal l.prog w K mg base "_law_draw" 1 yL:=zb8 c0 F.kp b7 (zk3 F TT);have n9:=gD a4 CD;have CW:=eX a9 CD n9;have v1:=lJ z nb CD n9;have CO:=kF A nb CD CW;have t4:=kn b0 CD v1 CO;have r4:=bQ c5 CD;have CN:=kq (P:=l.prog) (w:=w) (base:=base) c6 nb;have CC:Cal l.prog w K mg base "cheapest_first" 3 pV:=eE p3 m3 p7 I O nb hhd KX hbi;have w5:Cal l.prog w K mg base "marked" 4 rp:=kX g1 nb CC;have u4:=zA9 U l4;have m8:=fZ (zd0 j1 nb l4 CN u4 w5);have o9:=dz j2 CN l4;have f7:=zk0 a6 o9;have k5:=bM i3 o9 m8;have o1:=zo6 V f7 m8;have x8:=zl7 d1 nb o1;have u9:=zF3 a5 nb x8;have x7:=zi6 (P:=l.prog) (w:=w) (base:=base) e6 nb;have q0:=eM (P:=l.prog) (w:=w) (base:=base) d0 nb;have t3:=aQ j6 nb u9 x7 q0;have k6:=jw (P:=l.prog) (w:=w) (base:=base) x nb;have s9:=cY e3 nb k6 f7;have t9:=fc f0 nb s9;have y1:=zB8 c1 nb k5;have o4:=zC1 (P:=l.prog) (w:=w) (base:=base) x nb;have k2:=zm3 t nb o4;have w0:=zm0 R nb o1;have n2:=zm7 r nb w0;have y2:=eA f4 nb o4 t9 y1 k2 n2;have v0:=gN c4 nb f7;have r0:=kH (P:=l.prog) (w:=w) (base:=base) E nb;have s8:=gj f3 nb k2 r0 v0;have r1:=zb7 e2 nb y2 s8;have x3:=eG b2 nb CD t4 r6;have n5:=zj3 (P:=l.prog) (w:=w) (base:=base) a8 nb;have y5:=zl5 Z nb n5;have r9:=zb9 a0 nb f7;have u7:=bB Q nb f7 k5;have m5:=eZ T nb l5 f7;have t0:=zs3 c7 nb n5 y5 r9 u7 m5 k5;have v5:=zC0 C nb CD;have q4:=zJ3 J nb CD;have t8:=aN b8 nb CD v5 q4;exact zI0 h6 nb (zp6 H TT) c2 H.kp b6 CD x3 r4 t3 r1 t0 t8
def walk {l:PySem.W.OpenLaw}{q:Ag}{loose:List Str}{y:(Str->Option Ab)->Ao->Prop}{e:Ai->Ao->Prop}{d:DefRec}{K:Params->Ac}{c:Ae}(hn:l.most=some 63)(hdf:d.params.defaults=[])
  (t:∀(w:Ai) (h:Ao),e w h->(K w.params).In h) (i:∀(w:Ai) (h:Ao),e w h->h.get? yx=some (PySem.W.tabObj #[]))
  (g:∀w:Ai,(K w.params).lookup yx=none) (b:∀w:Ai,∃o vs,(K w.params).lookup c=some o/\o.cls=.type "code"/\o.data=.fields vs/\vs[11]?=some (.ref yx))
  (F:∀(w:Ai) (mg:Str->Option Ab) (j:Ae) (h:Ao),(K w.params).In h->h.Ns Ah mg->mg d.name=some (.ref j)->
   ∃fd:Ap,(∀(s:Ad) (u:Ab),BindsTo s fd ⟨[u],[]⟩ [("_law_script",u)])/\∀base:Ao,(K w.params).In base->base.Ns Ah mg->base.BuiltinsAt mg yx->yE l.prog w (K w.params) mg base CX0 14 j fd ["_law_script"] (nR (K w.params))):
  PySem.W.WalkO q loose y e l.row.toRowW d [] (λf vs=>PySem.call f vs):=
 L2.zb6 (n:=63) (k:=14) (x:="_law_script") (CX:=λ_=>CX0) (sp:=λw=>nR (K w.params)) hn (by decide) hdf ⟨rfl,by decide,by decide,rfl⟩ t i g b F (λ_ H a ns m _ v p=>⟨a,ns,rfl,p,m,⟨#[],v,trivial,λpos cv r=>by cases r⟩,λ_=>rfl⟩) λ_ _ _ _ _ z=>z
end K54
namespace PySem.W.Fast
def tw10429749430070728667:=Nat
def tw5614665834849792772:=Nat
def tw7709829704999269061:=Nat
def tw11961726021675865063:=Nat
def tw8119323175146060967:=Nat
def tw8933348071825571092:=Nat
def tw13012913341169123406:=Nat
def tw8286221066988998131:=Nat
def tw10262635660470111235:=Nat
def tw10635552816844103095:=Nat
def tw6349201479199975686:=Nat
def tw397851704265867369:=Nat
def tw6856268018823857712:=Nat
def tw8509113948931716266:=Nat
def tw14896048858679519226:=Nat
def tw7375692709288266820:=Nat
def tw3432489571424785258:=Nat
def tw16353456423085547300:=Nat
def tw10811135580403035476:=Nat
def tw5637444251388413432:=Nat
def tw4897254668095125259:=Nat
def tw8027589705787141207:=Nat
def tw11137337629539804058:=Nat
def tw11584938699515588460:=Nat
def tw6684193071628576956:=Nat
def tw16532324776433035758:=Nat
def tw18033705054115267998:=Nat
def tw4267155000379595594:=Nat
def tw11911851578660481388:=Nat
def tw244742015612131018:=Nat
def tw11210503422492808295:=Nat
def tw9806415905687952822:=Nat
def tw17732956247721024538:=Nat
def tw6543009756796521212:=Nat
def tw5483589926643205715:=Nat
def tw16757857125215340754:=Nat
def tw15099618887414282442:=Nat
def tw2915855601465419484:=Nat
def tw3114959747317818516:=Nat
def tw1953910029563821617:=Nat
def tw6185328334293946:=Nat
def tw9047482083023531022:=Nat
def tw7330393501467110695:=Nat
def tw9588661525911058449:=Nat
def tw13932680778887447117:=Nat
def tw383095939944332661:=Nat
def tw3986551427815240823:=Nat
def tw17761002650414253834:=Nat
def tw7767450016747143608:=Nat
def tw8503837939730945602:=Nat
def tw2796729087094134195:=Nat
def tw12514506523482265670:=Nat
def tw16631650718100211542:=Nat
def tw5445309820844141275:=Nat
def tw7639959300640474738:=Nat
def tw3381697231831648118:=Nat
def tw4588581310421427030:=Nat
def tw8646536189541785869:=Nat
def tw8712504966743817176:=Nat
def tw15787454624921405016:=Nat
def tw16749960009157153152:=Nat
def tw2187448266006248211:=Nat
def tw5818693190207307361:=Nat
def tw3947513404267818270:=Nat
def tw3492882684560496781:=Nat
def tw736449835088324477:=Nat
def tw16406828631728477892:=Nat
def tw15172078351153675998:=Nat
def tw17973723138236872634:=Nat
def tw7912037098721798474:=Nat
def tw4002076918708816041:=Nat
def tw304684577405680434:=Nat
def tw6231198253520023425:=Nat
def tw12870972593624351687:=Nat
def tw2029438101581483515:=Nat
def tw5664383149252512919:=Nat
def tw11840304784483537100:=Nat
def tw8916228324164141240:=Nat
def tw8904328691245233028:=Nat
def tw14179016618782639891:=Nat
def tw1943765325165046081:=Nat
def tw4498584146202093722:=Nat
def tw6008098749984192214:=Nat
def tw3783077971198572749:=Nat
def tw12614355031283905911:=Nat
def tw901115356236057784:=Nat
def tw15660050879806177668:=Nat
def tw14825622335367620289:=Nat
def tw4131657470107900276:=Nat
def tw16879072731219029166:=Nat
def tw2217915856222167449:=Nat
def tw1736835862556475516:=Nat
def tw18039125295224660071:=Nat
def tw6658188843586440647:=Nat
def tw1077505103471784884:=Nat
def tw1596213358970638727:=Nat
def tw16582452908349758476:=Nat
def tw8557723854474938538:=Nat
def tw14656904535714475410:=Nat
def tw9241149962540457725:=Nat
def tw7757185444986627296:=Nat
def tw11544914105409972798:=Nat
def tw8975826820581160817:=Nat
def tw11318235538619102516:=Nat
def tw5628459526618550740:=Nat
def tw16692067682447578065:=Nat
def tw17019156669209492471:=Nat
def tw5483488188546083634:=Nat
def tw14700307339573026180:=Nat
def tw5365576026610096277:=Nat
def tw17732262584446634717:=Nat
def tw15055054773137983892:=Nat
def tw16967749825042862584:=Nat
def tw17387373508424795834:=Nat
def tw2744156329134819538:=Nat
def tw12366329468661706242:=Nat
def tw5962003732179456269:=Nat
def tw7444291122090728222:=Nat
def tw1138143220896724422:=Nat
def tw16301698617750871596:=Nat
def tw7285689797835008493:=Nat
def tw11572595222412636491:=Nat
def tw12751754830379521551:=Nat
def tw6492552668573549326:=Nat
def tw9842518810203924731:=Nat
def tw17299977489461278202:=Nat
def tw8640086458587580339:=Nat
def tw16897568153883411466:=Nat
def tw11027045677162623895:=Nat
def tw12473603058233278440:=Nat
def tw14390091957100284300:=Nat
def tw12783952769998092565:=Nat
def tw11913307118885858817:=Nat
def tw4982186837319447846:=Nat
def tw1918057669898178260:=Nat
def tw11387618641356966099:=Nat
def tw15082707061738742908:=Nat
def tw5501595324285078726:=Nat
def tw4720433285084985897:=Nat
def tw9417402070368335284:=Nat
def tw7314598106643828690:=Nat
def tw13394777917819880446:=Nat
def tw7134476928563283816:=Nat
def tw3535971015384428441:=Nat
def tw12156125674243428758:=Nat
def tw319900409251088883:=Nat
def tw7923134623289013383:=Nat
def tw2350090487774457284:=Nat
def tw1577946701043517389:=Nat
def tw15269645933040754216:=Nat
def tw13720937801595060970:=Nat
def tw7174253387255843081:=Nat
def tw9971516719925540439:=Nat
def tw250017187257665818:=Nat
def tw3982386108073455514:=Nat
def tw10311045319523948602:=Nat
def tw11432205435371911854:=Nat
def tw4485902547184735016:=Nat
def tw7536781707588445590:=Nat
def tw2514792054695876793:=Nat
def tw6528584295452227176:=Nat
def tw15484431681141605377:=Nat
def tw1517060967259428089:=Nat
def tw17562729774138756404:=Nat
def tw3125493168598231795:=Nat
def tw7188047718142128351:=Nat
def tw7022932802385533762:=Nat
def tw1519317642779223229:=Nat
def tw3618405011359523400:=Nat
def tw14001325601053855756:=Nat
def tw9098474782546393756:=Nat
def tw5502253433812821224:=Nat
def tw12606541959802006721:=Nat
def tw17758574870918626829:=Nat
def tw6278252012883486598:=Nat
def tw17261218447600468801:=Nat
def tw6788798381722657173:=Nat
def tw13343921421949686669:=Nat
def tw1184227993790333076:=Nat
def tw18378774359509470507:=Nat
def tw1325336100600729381:=Nat
def tw12955487779213582432:=Nat
def tw8232967992289099491:=Nat
def tw13963627293941512925:=Nat
def tw1554817776077333951:=Nat
def tw685350680385265074:=Nat
def tw3613747590108922583:=Nat
def tw9153461879116520226:=Nat
def tw8301469063314130390:=Nat
def tw9662117778565445983:=Nat
def tw15313039338608793887:=Nat
def tw7599035574450689033:=Nat
def tw7008415257661798515:=Nat
def tw4079587160093117153:=Nat
def tw15152194242910022751:=Nat
def tw15998015554553326943:=Nat
def tw5577787861046471312:=Nat
def tw9611052044608552047:=Nat
def tw4093540158903210963:=Nat
def tw1152105787755377284:=Nat
def tw13844870343191781881:=Nat
def tw2269778785673429094:=Nat
def tw2738101061374864987:=Nat
def tw7466982714510221270:=Nat
def tw606373417135491549:=Nat
def tw15399415224797145620:=Nat
def tw14430489994417357973:=Nat
def tw15995977802528689550:=Nat
def tw12421266845388026724:=Nat
def tw10372602713400522215:=Nat
def tw4993045077551312140:=Nat
def tw6750688889266196533:=Nat
def tw1872296375556983411:=Nat
def tw10833316798966251267:=Nat
def tw1050704213863871440:=Nat
def tw11520480351776113072:=Nat
def tw15275197134807415800:=Nat
def tw18400276651103215836:=Nat
def tw3303594689702941615:=Nat
def tw13082737473229593033:=Nat
def tw3553480705176075428:=Nat
def tw3617905814358673777:=Nat
def tw8500217405725052581:=Nat
def tw4320194952704282961:=Nat
def tw7651602048141002798:=Nat
def tw16236304560714168847:=Nat
def tw4602923180390624368:=Nat
def tw9138764782400747952:=Nat
def tw16024427682371426264:=Nat
def tw15390484978582553219:=Nat
def tw8404623777781090964:=Nat
def tw11540489702785879835:=Nat
def tw6055580014267571741:=Nat
def tw13649709732931517852:=Nat
def tw10963580679350368611:=Nat
def tw16161656455155845905:=Nat
def tw11319403394584146987:=Nat
def tw16417901145539442519:=Nat
def tw1406115276572673016:=Nat
def tw2472592421822543827:=Nat
def tw525731376282494184:=Nat
def tw8077203433635693959:=Nat
def tw12734539286849778655:=Nat
def tw1683241124568119491:=Nat
def tw16299842828381793907:=Nat
def tw6259354139236204444:=Nat
def tw13192471238063642023:=Nat
def tw5494228941788401706:=Nat
def tw8030085233060518804:=Nat
def tw12403403775719600716:=Nat
def tw7972849963047561139:=Nat
def tw12820265692531437241:=Nat
def tw7401845617923093997:=Nat
def tw151127699809653070:=Nat
def tw14464052747455862316:=Nat
def tw8202478158364623716:=Nat
def tw13821612911348246103:=Nat
def tw2092785983127660357:=Nat
def tw1881451777908454766:=Nat
def tw15998304928996404831:=Nat
def tw7720966106265953531:=Nat
def tw17836351688147251223:=Nat
def tw5708632939670473729:=Nat
def tw291408438723898117:=Nat
def tw413664231144753644:=Nat
def tw4237364630737774900:=Nat
def tw1512377487695411842:=Nat
def tw1244185069256835795:=Nat
def tw9854137448153388665:=Nat
def tw6910275293693409926:=Nat
def tw12737176456361002751:=Nat
def tw276199595437882721:=Nat
def tw6153847883218932123:=Nat
def tw4273528736896945831:=Nat
def tw12463993751427455167:=Nat
def tw2812322627680668582:=Nat
def tw2920271305872494048:=Nat
def tw5767402012049023537:=Nat
def tw14782413717872555246:=Nat
def tw3616359934170574897:=Nat
def tw3931050701847534187:=Nat
def tw12801690980537069182:=Nat
def tw1765663454829672557:=Nat
def tw9004245294437096940:=Nat
def tw12267235959813693080:=Nat
def tw15110160690048034000:=Nat
def tw14914359984564373245:=Nat
def tw6634067847491745675:=Nat
def tw10112118759376930731:=Nat
def tw7428955540781097445:=Nat
end PySem.W.Fast
open PySem PySem.W PyProof.Rows
set_option maxRecDepth 100000 in
theorem PySem.Challenge.cw_stayprice_k54_looker_at_papers_holds : PySem.Challenge.rw_stayprice_k54_looker_at_papers.Holds := by
 w_on;o_law;k_head;(case hw=>w_witness2)
 k_fill
 refine K54.walk (l:=PySem.Challenge.rw_stayprice_k54_looker_at_papers) (c:=(151:Nat)) rfl rfl (λw h Y=>PySem.W.km_in_of Y) (λw h Y=>PySem.W.km_tabs_of Y _ (z06.mpr rfl)) ?hno ?htab ?hF
 case hno=>intro w;kernel_rfl
 case htab=>intro w;exact⟨_,_,by k_is,rfl,rfl,rfl⟩
 case hF=>
  intro w mg d h a G b
  refine' K54.all_mk a G b (K54.mkG a G ?_ (K54.mkF ?_ ?_ ?_)) (K54.mkG a G ?_ (K54.mkF ?_ ?_ ?_)) (K54.mkG a G ?_ (K54.mkF ?_ ?_ ?_)) (K54.mkG a G ?_ (K54.mkF ?_ ?_ ?_)) (K54.mkG a G ?_ (K54.mkF ?_ ?_ ?_)) (K54.mkG a G ?_ (K54.mkF ?_ ?_ ?_)) (K54.mkG a G ?_ (K54.mkF ?_ ?_ ?_)) (K54.mkG a G ?_ (K54.mkF ?_ ?_ ?_)) (K54.mkG a G ?_ (K54.mkF ?_ ?_ ?_)) (K54.mkG a G ?_ (K54.mkF ?_ ?_ ?_)) (K54.mkG a G ?_ (K54.mkF ?_ ?_ ?_)) (K54.mkG a G ?_ (K54.mkF ?_ ?_ ?_)) (K54.mkG a G ?_ (K54.mkF ?_ ?_ ?_)) ?_ ?_ ?_ ?_ (K54.mkG a G ?_ (K54.mkF ?_ ?_ ?_)) (K54.mkG a G ?_ (K54.mkF ?_ ?_ ?_)) (K54.mkG a G ?_ (K54.mkF ?_ ?_ ?_)) (K54.mkG a G ?_ (K54.mkF ?_ ?_ ?_)) (K54.mkG a G ?_ (K54.mkF ?_ ?_ ?_)) (K54.mkG a G ?_ (K54.mkF ?_ ?_ ?_)) (K54.mkG a G ?_ (K54.mkF ?_ ?_ ?_)) (K54.mkG a G ?_ (K54.mkF ?_ ?_ ?_)) (K54.mkG a G ?_ (K54.mkF ?_ ?_ ?_)) (K54.mkG a G ?_ (K54.mkF ?_ ?_ ?_)) (K54.mkG a G ?_ (K54.mkF ?_ ?_ ?_)) (K54.mkG a G ?_ (K54.mkF ?_ ?_ ?_)) (K54.mkG a G ?_ (K54.mkF ?_ ?_ ?_)) (K54.mkG a G ?_ (K54.mkF ?_ ?_ ?_)) (K54.mkG a G ?_ (K54.mkF ?_ ?_ ?_)) (K54.mkG a G ?_ (K54.mkF ?_ ?_ ?_)) (K54.mkG a G ?_ (K54.mkF ?_ ?_ ?_)) (K54.mkG a G ?_ (K54.mkF ?_ ?_ ?_)) (K54.mkG a G ?_ (K54.mkF ?_ ?_ ?_)) (K54.mkG a G ?_ (K54.mkF ?_ ?_ ?_)) (K54.mkG a G ?_ (K54.mkF ?_ ?_ ?_)) (K54.mkG a G ?_ (K54.mkF ?_ ?_ ?_)) (K54.mkG a G ?_ (K54.mkF ?_ ?_ ?_)) (K54.mkG a G ?_ (K54.mkF ?_ ?_ ?_)) (K54.mkG a G ?_ (K54.mkF ?_ ?_ ?_)) (K54.mkG a G ?_ (K54.mkF ?_ ?_ ?_)) (K54.mkG a G ?_ (K54.mkF ?_ ?_ ?_)) (K54.mkG a G ?_ (K54.mkF ?_ ?_ ?_)) (K54.mkG a G ?_ (K54.mkF ?_ ?_ ?_)) (K54.mkG a G ?_ (K54.mkF ?_ ?_ ?_)) (K54.mkG a G ?_ (K54.mkF ?_ ?_ ?_)) (K54.mkG a G ?_ (K54.mkF ?_ ?_ ?_)) (K54.mkG a G ?_ (K54.mkF ?_ ?_ ?_)) (K54.mkG a G ?_ (K54.mkF ?_ ?_ ?_)) (K54.mkG a G ?_ (K54.mkF ?_ ?_ ?_)) (K54.mkG a G ?_ (K54.mkF ?_ ?_ ?_)) (K54.mkG a G ?_ (K54.mkF ?_ ?_ ?_)) (K54.mkG a G ?_ (K54.mkF ?_ ?_ ?_)) (K54.mkG a G ?_ (K54.mkF ?_ ?_ ?_)) (K54.mkG a G ?_ (K54.mkF ?_ ?_ ?_)) (K54.mkG a G ?_ (K54.mkF ?_ ?_ ?_)) (K54.mkG a G ?_ (K54.mkF ?_ ?_ ?_)) (K54.mkG a G ?_ (K54.mkF ?_ ?_ ?_)) ?_ ?_ ?_ ?_ ?_ ?_ ?_ ?_ ?_ ?_ ?_ (K54.mkR ?_ ?_ ?_ ?_ ?_ ?_ ?_ ?_ ?_ ?_ ?_ ?_ ?_ ?_ ?_ ?_ ?_ ?_ ?_ ?_) (K54.mkR ?_ ?_ ?_ ?_ ?_ ?_ ?_ ?_ ?_ ?_ ?_ ?_ ?_ ?_ ?_ ?_ ?_ ?_ ?_ ?_) (K54.mkR ?_ ?_ ?_ ?_ ?_ ?_ ?_ ?_ ?_ ?_ ?_ ?_ ?_ ?_ ?_ ?_ ?_ ?_ ?_ ?_) (K54.mkR ?_ ?_ ?_ ?_ ?_ ?_ ?_ ?_ ?_ ?_ ?_ ?_ ?_ ?_ ?_ ?_ ?_ ?_ ?_ ?_) (K54.mkR ?_ ?_ ?_ ?_ ?_ ?_ ?_ ?_ ?_ ?_ ?_ ?_ ?_ ?_ ?_ ?_ ?_ ?_ ?_ ?_) (K54.mkR ?_ ?_ ?_ ?_ ?_ ?_ ?_ ?_ ?_ ?_ ?_ ?_ ?_ ?_ ?_ ?_ ?_ ?_ ?_ ?_) (K54.mkR ?_ ?_ ?_ ?_ ?_ ?_ ?_ ?_ ?_ ?_ ?_ ?_ ?_ ?_ ?_ ?_ ?_ ?_ ?_ ?_) (K54.mkF ?_ ?_ ?_) (K54.mkF ?_ ?_ ?_) (K54.mkF ?_ ?_ ?_) (K54.mkF ?_ ?_ ?_) (K54.mkF ?_ ?_ ?_) (K54.mkF ?_ ?_ ?_) (K54.mkF ?_ ?_ ?_) (K54.mkF ?_ ?_ ?_) (K54.mkF ?_ ?_ ?_) ?_ ?_ ?_ ?_ ?_ ?_ ?_ ?_ ?_ (K54.mkF ?_ ?_ ?_) ?_ ?_ ?_ ?_ ?_ ?_ ?_ ?_ ?_ ?_ ?_ ?_ ?_ ?_ ?_ ?_ ?_ ?_ ?_ ?_ ?_ ?_ ?_ ?_ ?_ ?_ ?_ ?_ ?_ ?_ ?_ ?_ ?_ ?_ ?_ ?_ ?_ ?_ ?_ ?_ ?_
  all_goals try (show _=_;first|k_is|kernel_rfl)
